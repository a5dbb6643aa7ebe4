/-
  journal: what a journal is; the reference.
-/
import Derived.Test.YtlelalnahlpcpaaK2
import Derived.Test.YtlelalnahlpcpaaPF1
import Derived.Test.YtlelalnahlpcpaaE6
set_option linter.unusedSimpArgs false
set_option linter.unusedVariables false
namespace Go.Proofs.Ytlelalnahlpcpaa
open Go.Lift

/-- A journal: its disk's bytes, how many of them are durable, its term, its vote, its log. -/
structure JN where
  b : List UInt8
  d : Nat
  term : Int
  vote : Int
  log : List GLogged
def stE (J : JN) (t v : Int) : Int := if t < 0 ∨ 1073741824 < t ∨ v < -1 ∨ 5 ≤ v then 1 else if t < J.term ∨ t = J.term ∧ J.vote ≠ -1 ∧ J.vote ≠ v then 20 else 0
def stJ (J : JN) (t v : Int) : JN := if stE J t v = 0 then { J with term := t, vote := v } else J
def logAt (l : List GLogged) (i : Int) : GLogged := if 0 ≤ i ∧ i < l.length then l.getD i.toNat ⟨0, ⟨0, 0, 0, 0, 0, 0, 0, 0, 0⟩⟩ else ⟨0, ⟨0, 0, 0, 0, 0, 0, 0, 0, 0⟩⟩
def lastT (l : List GLogged) : Int := (logAt l ((l.length : Int) - 1)).Term
def adE (J : JN) (t : Int) (e : GEntry) : Int := if t < 1 ∨ 1073741824 < t ∨ shapeE e = false then 1 else if J.term < t ∨ t < lastT J.log then 20 else if 4096 ≤ J.log.length then 2 else 0
def adJ (J : JN) (t : Int) (e : GEntry) : JN := if adE J t e = 0 then { J with log := J.log ++ [⟨t, e⟩] } else J
def cuE (J : JN) (n : Int) : Int := if n < 0 ∨ (J.log.length : Int) < n then 1 else 0
def cuJ (J : JN) (n : Int) : JN := if cuE J n = 0 then { J with log := J.log.take n.toNat } else J

@[simp] theorem logAt_neg (l : List GLogged) {i : Int} (h : i < 0) : logAt l i = ⟨0, ⟨0, 0, 0, 0, 0, 0, 0, 0, 0⟩⟩ := by unfold logAt; rw [if_neg (by omega)]
@[simp] theorem logAt_ge (l : List GLogged) {i : Int} (h : (l.length : Int) ≤ i) : logAt l i = ⟨0, ⟨0, 0, 0, 0, 0, 0, 0, 0, 0⟩⟩ := by unfold logAt; rw [if_neg (by omega)]
theorem logAt_get {l : List GLogged} {k : Nat} {x : GLogged} (h : l[k]? = some x) : logAt l (k : Int) = x := by
  have hlt := (List.getElem?_eq_some_iff.1 h).1
  unfold logAt
  rw [if_pos (by omega)]
  simp [h]
def hasAt (l : List GLogged) (i : Int) : Bool := decide (0 ≤ i ∧ i < l.length)

noncomputable def CK5 := mkC []
theorem CK5_ok : SpecsOk Try.prog CK5 := mkC_ok all_nil

noncomputable def CK6 := mkC []
theorem CK6_ok : SpecsOk Try.prog CK6 := mkC_ok all_nil

noncomputable def CK7 := mkC [(28, shapeSp)]
theorem CK7_ok : SpecsOk Try.prog CK7 := mkC_ok (all_cons refshape_spec all_nil)
@[simp] theorem CK7_1 : CK7 28 = shapeSp := rfl

/-! ### Records -/
def recA (t v : Int) : List UInt8 := enc (code 1) ++ enc (code t) ++ enc (code v)
def recE (t : Int) (e : GEntry) : List UInt8 := enc (code 2) ++ enc (code t) ++ bytesE e
def recC (n : Int) : List UInt8 := enc (code 3) ++ enc (code n)
noncomputable def putJ (J : JN) (p : List UInt8) : JN := { J with b := J.b ++ putB 8 [] p }
@[simp] theorem putJ_d (J : JN) (p : List UInt8) : (putJ J p).d = J.d := rfl
@[simp] theorem putJ_log (J : JN) (p : List UInt8) : (putJ J p).log = J.log := rfl
theorem in8 : In64 8 := by unfold In64; omega
theorem putB_len {key : Int} {p : List UInt8} (h : p.length ≤ 65536) : (putB key [] p).length ≤ 65600 := by
  unfold putB
  rw [if_neg (by omega), List.nil_append, frB_eq]
  have := enc_ten (code p.length) (code_lt (by unfold In64; omega))
  simp only [List.length_append, sumBs_length]
  omega

noncomputable def CK8 := mkC []
theorem CK8_ok : SpecsOk Try.prog CK8 := mkC_ok all_nil

theorem enc3 {n : Int} (h : In64 n) : (enc (code n)).length ≤ 10 := enc_ten _ (code_lt h)
theorem in2 : In64 2 := by unfold In64; omega
theorem in3 : In64 3 := by unfold In64; omega
noncomputable def CK9 := mkC []
theorem CK9_ok : SpecsOk Try.prog CK9 := mkC_ok all_nil

noncomputable def setTermJ (J : JN) (t v : Int) : JN := if stE J t v = 0 then putJ (stJ J t v) (recA t v) else J
noncomputable def appendJ (J : JN) (t : Int) (e : GEntry) : JN := if adE J t e = 0 then putJ (adJ J t e) (recE t e) else J
noncomputable def cutJ (J : JN) (n : Int) : JN := if cuE J n = 0 then putJ (cuJ J n) (recC n) else J
theorem stJ_b (J : JN) (t v : Int) : (stJ J t v).b = J.b := by unfold stJ; split <;> rfl
theorem adJ_b (J : JN) (t : Int) (e : GEntry) : (adJ J t e).b = J.b := by unfold adJ; split <;> rfl
theorem cuJ_b (J : JN) (n : Int) : (cuJ J n).b = J.b := by unfold cuJ; split <;> rfl
end Go.Proofs.Ytlelalnahlpcpaa
