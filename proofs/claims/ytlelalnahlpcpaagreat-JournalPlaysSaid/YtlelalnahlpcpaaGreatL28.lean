/-
  An address of a variable that nobody writes any more becomes data: what a closure may capture.
-/
import Derived.Test.YtlelalnahlpcpaaGreatPLC
set_option linter.unusedSimpArgs false
set_option linter.unusedVariables false
namespace Go.Lift

theorem weak_pp {k : Nat} {st : St} (i m : Nat) (o : AObj) (r : List V) (hi : st.s i = .ptr m 0 0) (hg : st.g m = some o) (hm : o.md ≠ .dead) (hf : o.fl ≠ 0) (he : o.elems = [r]) :
    Weak k st { s := upd st.s i (.pp r), g := upd st.g m (some { o with md := .ro }), c := st.c } := by
  intro w0 ex N a w I γ _ hs
  have hfz := freeze_one hs.inv hg hm
  refine ⟨Ic I γ [m], γ, hs.size, fun n => ?_, hfz, hs.defers, hs.glob.wider fun b h => .inl h⟩
  have hw : ∀ {v : V} {x : Value}, Rd w I γ v x → Rd w (Ic I γ [m]) γ v x := fun h => h.wider fun b h => .inl h
  show Rd w (Ic I γ [m]) γ (upd st.s i (V.pp r) n) _
  by_cases e : n = i
  · subst e
    rw [show upd st.s n (V.pp r) n = V.pp r from upd_same ..]
    have hp := hs.slots n
    rw [hi] at hp
    have hob := hs.inv.obj m o hg hm
    generalize a.tmps.getD n undef = x at hp
    cases hp with
    | ptr _ _ _ _ gi hγ hnn =>
      obtain ⟨cur, fr, ha⟩ := hs.inv.at_own hg hm hγ hnn
      have key : ∀ (j : Nat) (u : V), r[j]? = some u → ∃ y, cur[j]? = some y ∧ Rd w I γ u y ∧ u.closed = true := by
        intro j u hu
        have hc : cellAt o.elems 0 j = some u := by rw [he]; exact cellAt_mk rfl hu
        obtain ⟨y, y1, y2⟩ := ha.cells 0 j u hc
        exact ⟨y, by simpa using y1, y2, hob.closed hf 0 j u hc⟩
      refine .pp _ _ _ (fun j => cur[j]?.getD undef) (fun j u hu => ?_) (fun j u hu => ?_)
      · obtain ⟨y, y1, _⟩ := key j u hu
        refine ⟨.inr ⟨m, gi, by simp, hγ, hnn, rfl⟩, ?_⟩
        rw [add_lit, cell_of_row w gi.blk _ cur o.et fr ha.heap]
        simp [y1]
      · obtain ⟨y, y1, y2, y3⟩ := key j u hu
        simp only [y1, Option.getD_some]
        exact (y2.closed y3 noG).wider fun b h => .inl h
  · rw [show upd st.s i (V.pp r) n = st.s n from upd_ne _ _ e]
    exact hw (hs.slots n)
#print axioms weak_pp
end Go.Lift
