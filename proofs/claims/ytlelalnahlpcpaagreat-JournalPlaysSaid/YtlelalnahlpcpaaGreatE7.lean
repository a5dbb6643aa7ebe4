/-
  entry: the check of sanity, entries with one field changed, and the laws that need no state.
-/
import Derived.Test.YtlelalnahlpcpaaGreatE6
set_option linter.unusedSimpArgs false
set_option linter.unusedVariables false
namespace Go.Proofs.YtlelalnahlpcpaaGreat
open Go.Lift

theorem vEntry_mk (a b c d e f g h i : Int) : V.agg [.int .i64 a, .int .i64 b, .int .i64 c, .int .i64 d, .int .i64 e, .int .i64 f, .int .i64 g, .int .i64 h, .int .i64 i] = vEntry ⟨a, b, c, d, e, f, g, h, i⟩ := rfl
attribute [simp low] vEntry_mk

noncomputable def CEB := mkC [(92, shapeSp)]
theorem CEB_ok : SpecsOk Tryz.prog CEB := mkC_ok (all_cons shape_spec all_nil)
@[simp] theorem CEB_1 : CEB 92 = shapeSp := rfl

noncomputable def trueE6 := fam (fun _ : Unit => []) (fun _ => []) (fun _ => True) (fun _ => ⟨.bool true, []⟩)
@[simp] theorem trueE6_eq : trueE6 [] [] = some ⟨.bool true, []⟩ := fam_eq (A := fun _ : Unit => []) (fun _ _ _ _ => rfl) () trivial
def spoilt (e : GEntry) (w b : Int) : GEntry :=
  if w % 9 = 0 then { e with Kind := b } else if w % 9 = 1 then { e with Tick := b } else if w % 9 = 2 then { e with Tenant := b } else if w % 9 = 3 then { e with Cell := b } else if w % 9 = 4 then { e with Other := b }
  else if w % 9 = 5 then { e with Epoch := b } else if w % 9 = 6 then { e with From := b } else if w % 9 = 7 then { e with Until := b } else { e with N := b }
theorem spoilt_ok {e : GEntry} (h : GEntry.ok e) (w : Int) {b : Int} (hb : In64 b) : GEntry.ok (spoilt e w b) := by
  obtain ⟨h1, h2, h3, h4, h5, h6, h7, h8, h9⟩ := h
  unfold spoilt
  repeat' split
  all_goals exact ⟨by assumption, by assumption, by assumption, by assumption, by assumption, by assumption, by assumption, by assumption, by assumption⟩
noncomputable def spoiltSp := fam (fun i : GEntry × Int × Int => [vEntry i.1, .int .i64 i.2.1, .int .i64 i.2.2]) (fun _ : GEntry × Int × Int => []) (fun _ : GEntry × Int × Int => True) (fun i : GEntry × Int × Int => ⟨vEntry (spoilt i.1 i.2.1 i.2.2), []⟩)
@[simp] theorem spoiltSp_eq {e : GEntry} {w : Int} {b : Int}  : spoiltSp ([vEntry e, .int .i64 w, .int .i64 b]) ([]) = some (⟨vEntry (spoilt e w b), []⟩) :=
  fam_eq (A := fun i : GEntry × Int × Int => [vEntry i.1, .int .i64 i.2.1, .int .i64 i.2.2]) (O := fun _ : GEntry × Int × Int => []) (res := fun i : GEntry × Int × Int => ⟨vEntry (spoilt i.1 i.2.1 i.2.2), []⟩) (by rintro ⟨a0, a1, a2⟩ ⟨b0, b1, b2⟩ h h' <;> simp at h h' <;> simp_all) (e, w, b) trivial

set_option maxHeartbeats 40000000 in
theorem spoilt_spec : Lift.Spec Tryz.prog 28 spoiltSp := by
  refine spec_fam (C := CM1) types_ok CM1_ok follows Tryz.func28 (by kernel_rfl) rfl (by kernel_rfl) rfl ?_
  rintro ⟨e, w, b⟩ _
  refine ⟨by simp, ?_⟩
  intro r hr
  have h1 := Int.emod_nonneg w (show (9 : Int) ≠ 0 by decide)
  have h2 := Int.emod_lt_of_pos w (show (0 : Int) < 9 by decide)
  have hd : ∀ m : Int, w % 9 = m → spoilt e w b = if m = 0 then { e with Kind := b } else if m = 1 then { e with Tick := b } else if m = 2 then { e with Tenant := b } else if m = 3 then { e with Cell := b } else if m = 4 then { e with Other := b }
    else if m = 5 then { e with Epoch := b } else if m = 6 then { e with From := b } else if m = 7 then { e with Until := b } else { e with N := b } := fun m hm => by rw [← hm]; rfl
  have h9 : w % 9 = 0 ∨ w % 9 = 1 ∨ w % 9 = 2 ∨ w % 9 = 3 ∨ w % 9 = 4 ∨ w % 9 = 5 ∨ w % 9 = 6 ∨ w % 9 = 7 ∨ w % 9 = 8 := by omega
  rcases h9 with h | h | h | h | h | h | h | h | h
  all_goals
    have hs := hd _ h
    simp [GEntry.cells, h]
    rw [hr]; refine ret_closed rfl ?_ rfl
    simp [hs]

noncomputable def CEL := mkC [(9, modSp), (11, betweenSp), (28, spoiltSp), (92, shapeSp), (56, shapeSp), (97, bytesESp), (41, sameSp)]
theorem CEL_ok : SpecsOk Tryz.prog CEL := mkC_ok (all_cons mod_spec (all_cons between_spec (all_cons spoilt_spec (all_cons shape_spec (all_cons refshape_spec (all_cons bytesE_spec (all_cons same_spec all_nil)))))))
@[simp] theorem CEL_1 : CEL 9 = modSp := rfl
@[simp] theorem CEL_2 : CEL 11 = betweenSp := rfl
@[simp] theorem CEL_3 : CEL 28 = spoiltSp := rfl
@[simp] theorem CEL_4 : CEL 92 = shapeSp := rfl
@[simp] theorem CEL_5 : CEL 56 = shapeSp := rfl
@[simp] theorem CEL_6 : CEL 97 = bytesESp := rfl
@[simp] theorem CEL_7 : CEL 41 = sameSp := rfl

theorem encTo_inj : ∀ {a b : List Int}, a.length = b.length → (∀ n ∈ a, In64 n) → (∀ n ∈ b, In64 n) → encTo a = encTo b → a = b
  | [], [], _, _, _, _ => rfl
  | x :: a, y :: b, hl, ha, hb, h => by
    have e1 : encTo (x :: a) = enc (code x) ++ encTo a := by simp [encTo]
    have e2 : encTo (y :: b) = enc (code y) ++ encTo b := by simp [encTo]
    rw [e1, e2] at h
    have h1 := takeT_enc (ha x (List.mem_cons_self ..)) (encTo a)
    have h2 := takeT_enc (hb y (List.mem_cons_self ..)) (encTo b)
    rw [h, h2] at h1
    have hxy : y = x := congrArg (·.1) h1
    subst hxy
    rw [encTo_inj (by simpa using hl) (fun n hn => ha n (List.mem_cons_of_mem _ hn)) (fun n hn => hb n (List.mem_cons_of_mem _ hn)) (List.append_cancel_left h)]
theorem bytesE_inj {a b : GEntry} (ha : GEntry.ok a) (hb : GEntry.ok b) : bytesE a = bytesE b ↔ a = b := by
  refine ⟨fun h => ?_, fun h => by rw [h]⟩
  have := encTo_inj (a := entL a) (b := entL b) rfl (entL_64 ha) (entL_64 hb) h
  cases a; cases b
  simpa [entL] using this

end Go.Proofs.YtlelalnahlpcpaaGreat
