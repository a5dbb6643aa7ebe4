/-
  journal: the law Copies.
-/
import Derived.Test.YtlelalnahlpcpaaGreatKG
set_option linter.unusedSimpArgs false
set_option linter.unusedVariables false
namespace Go.Proofs.YtlelalnahlpcpaaGreat
open Go.Lift
set_option maxRecDepth 100000

theorem recordJ_log4 {J : JN} (h : J.log.length ≤ 4096) (p : List UInt8) : (recordJ J p).1.log.length ≤ 4096 := by
  have hst : ∀ t v, (stJ J t v).log.length ≤ 4096 := by intro t v; unfold stJ; split <;> exact h
  have had : ∀ t e, (adJ J t e).log.length ≤ 4096 := by
    intro t e; unfold adJ; split
    · next h0 => have := (adE_ok h0).2.2.2.1; simp; omega
    · exact h
  have hcu : ∀ n, (cuJ J n).log.length ≤ 4096 := by
    intro n; unfold cuJ; split
    · simp; omega
    · exact h
  unfold recordJ
  repeat' split
  all_goals first | exact h | exact hst _ _ | exact had _ _ | exact hcu _
theorem finR_log4 : ∀ (rs : List (List UInt8)) (J : JN), J.log.length ≤ 4096 → (finR rs J).log.length ≤ 4096
  | [], _, h => h
  | p :: rs, J, h => finR_log4 rs _ (recordJ_log4 h p)
theorem Hist.log4 {J : JN} {rs : List (List UInt8)} {s : Nat} (h : Hist J rs s) : J.log.length ≤ 4096 := by
  rw [h.eq, setD_log]; exact finR_log4 rs zeroJ (by simp)
/-- A journal that calls and crashes have made. -/
structure LiveJ (J : JN) (n : Nat) : Prop where
  hist : ∃ rs s, Hist J rs s
  bd : J.b.length ≤ 65600 * n
theorem LiveJ.log {J : JN} {n : Nat} (h : LiveJ J n) : J.log.length ≤ 4096 := by obtain ⟨⟨_, _, h1⟩, _⟩ := h; exact h1.log4
theorem LiveJ.d_le {J : JN} {n : Nat} (h : LiveJ J n) : J.d ≤ J.b.length := by obtain ⟨⟨_, _, h1⟩, _⟩ := h; exact h1.d_le
theorem LiveJ.setTerm {J : JN} {n : Nat} (h : LiveJ J n) {t v : Int} (h1 : In64 t) (h2 : In64 v) : LiveJ (setTermJ J t v) (n + 1) := by
  obtain ⟨⟨_, _, g1⟩, g3⟩ := h
  have := setTermJ_bd J t v
  exact ⟨⟨_, _, g1.setTerm h1 h2⟩, by omega⟩
theorem LiveJ.append {J : JN} {n : Nat} (h : LiveJ J n) {t : Int} {e : GEntry} (h1 : In64 t) (h2 : GEntry.ok e) : LiveJ (appendJ J t e) (n + 1) := by
  obtain ⟨⟨_, _, g1⟩, g3⟩ := h
  have := appendJ_bd J t e
  exact ⟨⟨_, _, g1.append h1 h2⟩, by omega⟩
theorem LiveJ.cut {J : JN} {n : Nat} (h : LiveJ J n) {k : Int} (h1 : In64 k) : LiveJ (cutJ J k) (n + 1) := by
  obtain ⟨⟨_, _, g1⟩, g3⟩ := h
  have := cutJ_bd J k
  exact ⟨⟨_, _, g1.cut h1⟩, by omega⟩
theorem LiveJ.sync {J : JN} {n : Nat} (h : LiveJ J n) : LiveJ (syncJ J) n := by
  obtain ⟨⟨_, _, g1⟩, g3⟩ := h
  exact ⟨⟨_, _, g1.sync⟩, g3⟩
theorem LiveJ.crash {J : JN} {n : Nat} (h : LiveJ J n) (keep : Int) : LiveJ (crashJ J keep) n := by
  have hd := h.d_le
  obtain ⟨⟨_, _, g1⟩, g3⟩ := h
  obtain ⟨k, _, _, g⟩ := g1.crash keep
  have := (crashJ_bd J keep hd).1
  exact ⟨⟨_, _, g⟩, by omega⟩
theorem grow_live (l : List Int) (sync : Int) : LiveJ (growJ l sync) 31 := by
  obtain ⟨⟨s, h1, h2⟩, h3⟩ := grow_inv l sync
  have := (grow_b l sync).1
  exact ⟨⟨_, _, h1.hist⟩, by omega⟩

def byO (b : List UInt8) : AObj := ⟨5, 1, byteRow b, false, 2, .rw⟩
def coSt (m : List GL08Act) (out : List GLogged) (J : JN) (i : Nat × JN) : St := mkSt [(1, .sl 2 3 (GL08Act.row m)), (5, .ptr 0 0 0), (6, .sl 2 10 (GLogged.row out)), (8, .own 2 0 J.b.length), (9, .ptr 1 0 0), (10, .int .i64 i.1)] [(0, jnO J), (1, jnO i.2), (2, byO J.b)] 3
end Go.Proofs.YtlelalnahlpcpaaGreat
