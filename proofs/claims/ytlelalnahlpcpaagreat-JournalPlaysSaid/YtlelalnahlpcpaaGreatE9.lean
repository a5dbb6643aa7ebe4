/-
  entry: what is written is read back, as data.
-/
import Derived.Test.YtlelalnahlpcpaaGreatE6
set_option linter.unusedSimpArgs false
set_option linter.unusedVariables false
namespace Go.Proofs.YtlelalnahlpcpaaGreat
open Go.Lift

theorem rdN_enc : ∀ (ns : List Int) (vs : List Int) (p more : List UInt8), (∀ n ∈ ns, In64 n) → rdN ns.length (p ++ (encTo ns ++ more)) vs p.length = (vs ++ ns, p.length + (encTo ns).length, 0)
  | [], vs, p, more, _ => by simp [rdN, encTo]
  | x :: ns, vs, p, more, h => by
    have e1 : encTo (x :: ns) = enc (code x) ++ encTo ns := by simp [encTo]
    have hx := takeT_enc (h x (List.mem_cons_self ..)) (encTo ns ++ more)
    have hd : (p ++ (encTo (x :: ns) ++ more)).drop p.length = enc (code x) ++ (encTo ns ++ more) := by rw [e1]; simp
    have hp : p ++ (encTo (x :: ns) ++ more) = (p ++ enc (code x)) ++ (encTo ns ++ more) := by rw [e1]; simp
    have ih := rdN_enc ns (vs ++ [x]) (p ++ enc (code x)) more (fun n hn => h n (List.mem_cons_of_mem _ hn))
    show rdN (ns.length + 1) _ vs _ = _
    rw [rdN, hd, hx]
    simp only [if_true, Int.toNat_natCast]
    rw [hp]
    rw [List.length_append] at ih
    rw [ih, e1]
    simp [Nat.add_assoc]
theorem rdN_back : ∀ (m : Nat) (l : List UInt8) (vs : List Int) (u : Nat) (vs' : List Int) (u' : Nat), u ≤ l.length → rdN m l vs u = (vs', u', 0) → ∃ ns : List Int, ns.length = m ∧ (∀ n ∈ ns, In64 n) ∧ vs' = vs ++ ns ∧ u' = u + (encTo ns).length ∧ u' ≤ l.length ∧ ∃ rest, l.drop u = encTo ns ++ rest
  | 0, l, vs, u, vs', u', hu, h => by
    simp only [rdN, Prod.mk.injEq, and_true] at h
    exact ⟨[], rfl, by simp, by simp [h.1], by simp [encTo, h.2], by omega, l.drop u, by simp [encTo]⟩
  | m + 1, l, vs, u, vs', u', hu, h => by
    rw [rdN] at h
    rcases hT : takeT (l.drop u) with ⟨n, k, e⟩
    rw [hT] at h
    simp only at h
    by_cases he : e = 0
    · subst he
      obtain ⟨hn, rest, h1, h2⟩ := takeT_back hT
      simp only [if_true] at h
      have hl := congrArg List.length h1
      rw [List.length_drop, List.length_append] at hl
      have hk : k.toNat = (enc (code n)).length := by omega
      rw [hk] at h
      obtain ⟨ns, g1, g2, g3, g4, g5, rest', g6⟩ := rdN_back m l (vs ++ [n]) (u + (enc (code n)).length) vs' u' (by omega) h
      have e1 : encTo (n :: ns) = enc (code n) ++ encTo ns := by simp [encTo]
      refine ⟨n :: ns, by simp [g1], fun x hx => ?_, by simp [g3], by rw [e1, List.length_append]; omega, g5, rest', ?_⟩
      · rcases List.mem_cons.1 hx with rfl | hx
        · exact hn
        · exact g2 x hx
      · rw [e1, h1]
        have : l.drop (u + (enc (code n)).length) = rest := by rw [← List.drop_drop, h1]; simp
        rw [this] at g6
        rw [g6, List.append_assoc]
    · rw [if_neg he] at h
      simp only [Prod.mk.injEq] at h
      exact absurd h.2.2 he
theorem entL_of {ns : List Int} (h : ns.length = 9) : entL (entOf ns) = ns := by
  match ns, h with
  | [a, b, c, d, e, f, g, i, j], _ => rfl
theorem entOf_entL (e : GEntry) : entOf (entL e) = e := rfl
theorem readE_bytes {e : GEntry} (h : GEntry.ok e) (more : List UInt8) : readE (bytesE e ++ more) = if shapeE e = true then (e, ((bytesE e).length : Int), 0) else (zeroE, 0, 18) := by
  have hr := rdN_enc (entL e) [] [] more (entL_64 h)
  simp only [List.nil_append, List.length_nil, Nat.zero_add] at hr
  have hT : rdT (bytesE e ++ more) = (entL e, (bytesE e).length, 0) := by rw [rdT_eq]; exact hr
  rw [readE_eq, readE0, hT]
  simp only [if_true, entOf_entL]
  rfl
theorem readE_back {l : List UInt8} {y : GEntry} {m : Int} (h : readE l = (y, m, 0)) : GEntry.ok y ∧ 1 ≤ m ∧ m ≤ l.length ∧ bytesE y = l.take m.toNat := by
  rw [readE_eq, readE0] at h
  rcases hT : rdT l with ⟨vs, u, e⟩
  rw [hT] at h
  simp only at h
  by_cases he : e = 0
  · subst he
    rw [if_pos rfl] at h
    rw [rdT_eq] at hT
    obtain ⟨ns, g1, g2, g3, g4, g5, rest, g6⟩ := rdN_back 9 l [] 0 vs u (Nat.zero_le _) hT
    simp only [List.nil_append, List.drop_zero, Nat.zero_add] at g3 g4 g6
    subst g3
    by_cases hs : shapeE (entOf vs) = true
    · rw [if_pos hs] at h
      simp only [Prod.mk.injEq, and_true] at h
      obtain ⟨rfl, rfl⟩ := h
      have hb : bytesE (entOf vs) = encTo vs := by unfold bytesE; rw [entL_of g1]
      have hpos : 1 ≤ (encTo vs).length := by
        match vs, g1 with
        | x :: vs, _ =>
          have := enc_pos (code x)
          rw [show encTo (x :: vs) = enc (code x) ++ encTo vs by simp [encTo], List.length_append]; omega
      refine ⟨?_, by omega, by omega, ?_⟩
      · have q := entL_of g1
        rw [← q] at g2
        simp only [entL, List.mem_cons, List.not_mem_nil, or_false, forall_eq_or_imp, forall_eq] at g2
        exact g2
      · rw [hb, Int.toNat_natCast, g4, g6]; simp
    · rw [if_neg hs] at h
      simp at h
  · rw [if_neg he] at h
    simp only [Prod.mk.injEq] at h
    exact absurd h.2.2 he
@[simp] theorem vEntry_scalar (e : GEntry) : (vEntry e).scalar = true := rfl
end Go.Proofs.YtlelalnahlpcpaaGreat
