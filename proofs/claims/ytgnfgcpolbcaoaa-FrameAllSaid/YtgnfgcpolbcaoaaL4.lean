/-
  The operations that only compute: what the data say is what Go's operation yields.
-/
import Derived.Test.YtgnfgcpolbcaoaaL3
import Derived.Laws.Append
import Derived.Laws.CopyRow
import Derived.Laws.Entries
namespace Go.Lift

section
variable {P : Program} {T : TypeId → Option TI}

theorem TypeOk.run_info {t : TypeId} {ti : TI} (h : TypeOk P t ti) (w : World) : ∃ i z, (typeInfo t).run P w = .ok i w ∧ i.size = ti.size ∧ i.bytes = ti.bytes ∧ i.zero = some z ∧ z.cells.size = ti.size ∧ z.cells.toList.map ofCell = ti.zero := by
  obtain ⟨i, z, h1, h2⟩ := h.info
  exact ⟨i, z, by simp [typeInfo, h1], h2⟩
theorem TypeOk.run_size {t : TypeId} {ti : TI} (h : TypeOk P t ti) (w : World) : (sizeOf t).run P w = .ok ti.size w := by
  obtain ⟨i, z, h1, h2, _⟩ := h.info
  simp [sizeOf, typeInfo, h1, h2]
theorem TypeOk.run_under {t : TypeId} {ti : TI} (h : TypeOk P t ti) (w : World) : (underlying t).run P w = .ok ti.desc w := run_underlying h.under w
theorem TypeOk.run_agg {t : TypeId} {ti : TI} (h : TypeOk P t ti) (w : World) : (Go.isAgg t).run P w = .ok ti.agg w := by
  simp only [Go.isAgg, Sem.run_bind, h.run_under, Result.andThen_ok, h.isAgg]
  cases ti.desc <;> rfl
theorem TypeOk.run_zero {t : TypeId} {ti : TI} (h : TypeOk P t ti) (w : World) : ∃ z, (zeroValue t).run P w = .ok z w ∧ z.cells.size = ti.size ∧ z.cells.toList.map ofCell = ti.zero := by
  obtain ⟨i, z, h1, h2, h3, h4, h5, h6⟩ := h.info
  exact ⟨z, by simp [zeroValue, typeInfo, h1, h4], h5, h6⟩

theorem descOf_some {t : TypeId} {d : TypeDesc} (h : descOf T t = some d) : ∃ ti, T t = some ti ∧ ti.desc = d := by
  unfold descOf at h
  cases ht : T t with
  | none => rw [ht] at h; cases h
  | some ti => rw [ht] at h; exact ⟨ti, rfl, by simpa using h⟩
theorem desc_under (hT : TypesOk P T) {t : TypeId} {d : TypeDesc} (h : descOf T t = some d) (w : World) : (underlying t).run P w = .ok d w := by
  obtain ⟨ti, h1, h2⟩ := descOf_some h
  rw [← h2]; exact (hT t ti h1).run_under w

theorem Rd.ofCell (w I γ) (v : Value) : Rd w I γ (ofCell v) v := by
  unfold Lift.ofCell
  split <;> first | exact .int _ _ _ | exact .bool _ _ | exact .str _ _ | exact .nil _ 0 _ (by decide) | exact .pnil _ | exact .junk _ _
theorem Rd.ofConst (w I γ) (v : Value) : Rd w I γ (ofConst v) v := by
  unfold Lift.ofConst
  split
  · rename_i cs
    refine .agg _ _ cs (by simp) fun j u x hu hx => ?_
    rw [List.getElem?_map] at hu
    rw [← Array.getElem?_toList] at hx
    rw [hx] at hu
    simp at hu
    subst hu
    exact Rd.ofCell w I γ x
  · exact Rd.ofCell w I γ v

theorem do_int {w : World} {op : BinOp} {k : IntKind} {a b : Int} (xt : TypeId) (ox oy : Operand) {x : Sem Value} (h : binOp op xt (.int k a) (.int k b) = x) :
    (do eqGuard op xt ox oy (.int k a) (.int k b); binOp op xt (.int k a) (.int k b)).run P w = x.run P w := by
  have e : eqGuard op xt ox oy (.int k a) (.int k b) = pure () := by cases op <;> rfl
  rw [e, Sem.run_bind, Sem.run_pure, Result.andThen_ok, h]
theorem aInt_sound {w : World} {I γ} {op : BinOp} {k : IntKind} {a b : Int} {v : V} (xt : TypeId) (ox oy : Operand) (hs : isShift op = false) (h : aInt op k a b = some v) :
    ∃ r, (do eqGuard op xt ox oy (.int k a) (.int k b); binOp op xt (.int k a) (.int k b)).run P w = .ok r w ∧ Rd w I γ v r := by
  cases op <;> simp [isShift] at hs <;> simp only [aInt] at h
  case quo =>
    by_cases hb : b = 0
    · rw [if_pos hb] at h; cases h
    · rw [if_neg hb] at h; cases h
      exact ⟨_, by simp [eqGuard, binOp, Op.intDiv, hb], .int _ _ _⟩
  case rem =>
    by_cases hb : b = 0
    · rw [if_pos hb] at h; cases h
    · rw [if_neg hb] at h; cases h
      exact ⟨_, by simp [eqGuard, binOp, Op.intDiv, hb], .int _ _ _⟩
  all_goals cases h
  case add => exact ⟨_, (do_int xt ox oy (x := Op.intArith .add k a b) (by simp [binOp])).trans rfl, .int _ _ _⟩
  case sub => exact ⟨_, (do_int xt ox oy (x := Op.intArith .sub k a b) (by simp [binOp])).trans rfl, .int _ _ _⟩
  case mul => exact ⟨_, (do_int xt ox oy (x := Op.intArith .mul k a b) (by simp [binOp])).trans rfl, .int _ _ _⟩
  case and => exact ⟨_, (do_int xt ox oy (x := Op.intBits .and k a b) (by simp [binOp])).trans rfl, .int _ _ _⟩
  case or => exact ⟨_, (do_int xt ox oy (x := Op.intBits .or k a b) (by simp [binOp])).trans rfl, .int _ _ _⟩
  case xor => exact ⟨_, (do_int xt ox oy (x := Op.intBits .xor k a b) (by simp [binOp])).trans rfl, .int _ _ _⟩
  case andNot => exact ⟨_, (do_int xt ox oy (x := Op.intBits .andNot k a b) (by simp [binOp])).trans rfl, .int _ _ _⟩
  case eql => exact ⟨_, (do_int xt ox oy (x := Op.intCmp .eql a b) (by simp [binOp])).trans rfl, .bool _ _⟩
  case neq => exact ⟨_, (do_int xt ox oy (x := Op.intCmp .neq a b) (by simp [binOp])).trans rfl, .bool _ _⟩
  case lss => exact ⟨_, (do_int xt ox oy (x := Op.intCmp .lss a b) (by simp [binOp])).trans rfl, .bool _ _⟩
  case leq => exact ⟨_, (do_int xt ox oy (x := Op.intCmp .leq a b) (by simp [binOp])).trans rfl, .bool _ _⟩
  case gtr => exact ⟨_, (do_int xt ox oy (x := Op.intCmp .gtr a b) (by simp [binOp])).trans rfl, .bool _ _⟩
  case geq => exact ⟨_, (do_int xt ox oy (x := Op.intCmp .geq a b) (by simp [binOp])).trans rfl, .bool _ _⟩

theorem aShift_sound {w : World} {I γ} {op : BinOp} {k k' : IntKind} {a b : Int} {v : V} (xt : TypeId) (ox oy : Operand) (h : aShift op k a b = some v) :
    ∃ r, (do eqGuard op xt ox oy (.int k a) (.int k' b); binOp op xt (.int k a) (.int k' b)).run P w = .ok r w ∧ Rd w I γ v r := by
  unfold aShift at h
  by_cases hb : b < 0
  · rw [if_pos hb] at h; cases h
  · rw [if_neg hb] at h
    cases op <;> simp only at h
    all_goals first
      | (cases h; refine ⟨_, ?_, .int _ _ _⟩; simp [eqGuard, binOp, Op.shift, hb])
      | cases h

theorem aStr_sound {w : World} {I γ} {op : BinOp} {a b : ByteArray} {v : V} (xt : TypeId) (ox oy : Operand) (h : aStr op a b = some v) :
    ∃ r, (do eqGuard op xt ox oy (.string a) (.string b); binOp op xt (.string a) (.string b)).run P w = .ok r w ∧ Rd w I γ v r := by
  cases op <;> simp only [aStr] at h
  all_goals first
    | (cases h; exact ⟨_, rfl, .bool _ _⟩)
    | (split at h
       · cases h
       · rename_i hle
         cases h
         refine ⟨_, ?_, .str _ _⟩
         simp only [eqGuard, binOp, Op.stringOp, Sem.run_bind]
         rw [if_neg hle]; rfl)
    | cases h

theorem equalIn_bool {w : World} {t : TypeId} (h : (underlying t).run P w = .ok .bool w) (d : Nat) (a b : Bool) : (Op.equalIn (d + 1) t (.bool a) (.bool b)).run P w = .ok (a == b) w := by
  simp only [Op.equalIn, Sem.run_bind, h, Result.andThen_ok, Sem.run_pure]
theorem equalIn_slice {w : World} {t e : TypeId} (h : (underlying t).run P w = .ok (.slice e) w) (d : Nat) (x : Option Addr) (n c : Nat) : (Op.equalIn (d + 1) t (.slice x n c) (.slice none 0 0)).run P w = .ok x.isNone w := by
  simp only [Op.equalIn, Sem.run_bind, h, Result.andThen_ok]
  cases x <;> rfl
theorem eq_of {w : World} {t : TypeId} {x y : Value} {b : Bool} (ox oy : Operand) (hb : ∀ w, (eqGuard .eql t ox oy x y).run P w = .ok () w) (hb' : ∀ w, (eqGuard .neq t ox oy x y).run P w = .ok () w)
    (he : (Op.equal t x y).run P w = .ok b w) (h1 : binOp .eql t x y = (Op.equal t x y >>= fun r => pure (.bool r))) (h2 : binOp .neq t x y = (Op.equal t x y >>= fun r => pure (.bool !r))) :
    (do eqGuard .eql t ox oy x y; binOp .eql t x y).run P w = .ok (.bool b) w ∧ (do eqGuard .neq t ox oy x y; binOp .neq t x y).run P w = .ok (.bool !b) w := by
  constructor
  · rw [Sem.run_bind, hb, Result.andThen_ok, h1, Sem.run_bind, he]; rfl
  · rw [Sem.run_bind, hb', Result.andThen_ok, h2, Sem.run_bind, he]; rfl
theorem bool_eq {w : World} {t : TypeId} (h : (underlying t).run P w = .ok .bool w) (ox oy : Operand) (a b : Bool) :
    (do eqGuard .eql t ox oy (.bool a) (.bool b); binOp .eql t (.bool a) (.bool b)).run P w = .ok (.bool (a == b)) w ∧ (do eqGuard .neq t ox oy (.bool a) (.bool b); binOp .neq t (.bool a) (.bool b)).run P w = .ok (.bool !(a == b)) w :=
  eq_of ox oy (fun _ => rfl) (fun _ => rfl) (equalIn_bool h 9999 a b) rfl rfl
theorem slice_eq {w : World} {t e : TypeId} (h : (underlying t).run P w = .ok (.slice e) w) (ox oy : Operand) (x : Option Addr) (n c : Nat) :
    (do eqGuard .eql t ox oy (.slice x n c) (.slice none 0 0); binOp .eql t (.slice x n c) (.slice none 0 0)).run P w = .ok (.bool x.isNone) w ∧ (do eqGuard .neq t ox oy (.slice x n c) (.slice none 0 0); binOp .neq t (.slice x n c) (.slice none 0 0)).run P w = .ok (.bool !x.isNone) w :=
  eq_of ox oy (fun _ => rfl) (fun _ => rfl) (equalIn_slice h 9999 x n c) rfl rfl

theorem aBin_sound (hT : TypesOk P T) {w : World} {I γ} {op : BinOp} {xt : TypeId} {x y v : V} {vx vy : Value} (ox oy : Operand) (hx : Rd w I γ x vx) (hy : Rd w I γ y vy) (h : aBin T op xt x y = some v) :
    ∃ r, (do eqGuard op xt ox oy vx vy; binOp op xt vx vy).run P w = .ok r w ∧ Rd w I γ v r := by
  unfold aBin at h
  split at h
  · cases hx; cases hy
    split at h
    · exact aShift_sound xt ox oy h
    · split at h
      · rename_i hs hk
        subst hk
        exact aInt_sound xt ox oy (by simpa using hs) h
      · cases h
  · cases hx; cases hy; exact aStr_sound xt ox oy h
  · cases hx; cases hy
    split at h
    · rename_i hd
      cases h
      exact ⟨_, (bool_eq (desc_under hT hd w) ox oy _ _).1, .bool _ _⟩
    · rename_i hd
      cases h
      exact ⟨_, (bool_eq (desc_under hT hd w) ox oy _ _).2, .bool _ _⟩
    · cases h
  · have hvy : vy = .slice none 0 0 := by
      cases hy with
      | nil => rfl
      | sl _ _ _ _ a n c xs h0 => exact absurd rfl h0
    subst hvy
    have hvx : ∃ x n c, vx = .slice x n c ∧ True := by cases hx <;> exact ⟨_, _, _, rfl, trivial⟩
    obtain ⟨q, n, c, rfl, _⟩ := hvx
    split at h
    · rename_i t _ _ _ _ hd
      have hk := (slice_eq (desc_under hT hd w) ox oy q n c).1
      split at h
      · rename_i h0; cases h; subst h0
        have : q = none := by
          cases hx with
          | nil => rfl
          | sl _ _ _ _ a n c xs h0 => exact absurd rfl h0
        subst this; exact ⟨_, hk, .bool _ _⟩
      · split at h
        · rename_i h1; cases h
          have : q.isNone = false := by
            cases hx with
            | nil _ _ _ hh => rcases h1 with h1 | h1 | h1 <;> simp_all
            | sl _ _ _ _ a n c xs h0 => rfl
          rw [this] at hk; exact ⟨_, hk, .bool _ _⟩
        · cases h; exact ⟨_, hk, .anyB _ _⟩
    · rename_i t _ _ _ _ hd
      have hk := (slice_eq (desc_under hT hd w) ox oy q n c).2
      split at h
      · rename_i h0; cases h; subst h0
        have : q = none := by
          cases hx with
          | nil => rfl
          | sl _ _ _ _ a n c xs h0 => exact absurd rfl h0
        subst this; exact ⟨_, hk, .bool _ _⟩
      · split at h
        · rename_i h1; cases h
          have : q.isNone = false := by
            cases hx with
            | nil _ _ _ hh => rcases h1 with h1 | h1 | h1 <;> simp_all
            | sl _ _ _ _ a n c xs h0 => rfl
          rw [this] at hk; exact ⟨_, hk, .bool _ _⟩
        · cases h; exact ⟨_, hk, .anyB _ _⟩
    · cases h
  · have hvy : vy = .slice none 0 0 := by
      cases hy with
      | nil => rfl
      | sl _ _ _ _ a n c xs h0 => exact absurd rfl h0
    subst hvy
    have hvx : ∃ x n c, vx = .slice x n c ∧ True := by cases hx <;> exact ⟨_, _, _, rfl, trivial⟩
    obtain ⟨q, n, c, rfl, _⟩ := hvx
    split at h
    · rename_i hd
      have hk := (slice_eq (desc_under hT hd w) ox oy q n c).1
      split at h
      · rename_i h1; cases h
        have : q.isNone = false := by
          cases hx with
          | ownnil => exact absurd rfl h1
          | own => rfl
        rw [this] at hk; exact ⟨_, hk, .bool _ _⟩
      · cases h; exact ⟨_, hk, .anyB _ _⟩
    · rename_i hd
      have hk := (slice_eq (desc_under hT hd w) ox oy q n c).2
      split at h
      · rename_i h1; cases h
        have : q.isNone = false := by
          cases hx with
          | ownnil => exact absurd rfl h1
          | own => rfl
        rw [this] at hk; exact ⟨_, hk, .bool _ _⟩
      · cases h; exact ⟨_, hk, .anyB _ _⟩
    · cases h
  · cases h

theorem xor_wrap (k : IntKind) (n : Int) : k.wrap ((BitVec.ofInt k.bits (if k.signed then -1 else k.max) ^^^ BitVec.ofInt k.bits n).toNat) = k.wrap (-n - 1) := by
  have h : BitVec.ofInt k.bits (if k.signed then -1 else k.max) = BitVec.allOnes k.bits := by cases k <;> decide
  rw [h, BitVec.allOnes_xor, BitVec.toNat_not, BitVec.toNat_ofInt]
  cases k <;> simp [IntKind.wrap, IntKind.bits, IntKind.signed] <;> omega

theorem aUn_sound {w : World} {I γ} {op : UnOp} {x v : V} {vx : Value} (hx : Rd w I γ x vx) (h : aUn op x = some v) :
    ∃ r, (Op.unary op vx).run P w = .ok r w ∧ Rd w I γ v r := by
  unfold aUn at h
  split at h
  · cases hx; simp only [aInt] at h; cases h; exact ⟨_, rfl, .int _ _ _⟩
  · cases hx; cases h; rw [← xor_wrap]; exact ⟨_, rfl, .int _ _ _⟩
  · cases hx; cases h; exact ⟨_, rfl, .bool _ _⟩
  · cases hx; cases h; exact ⟨_, rfl, .anyB _ _⟩
  · cases h

end
end Go.Lift
