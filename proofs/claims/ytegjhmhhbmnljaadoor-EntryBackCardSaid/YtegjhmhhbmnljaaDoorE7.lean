/-
  entry: the check of sanity, entries with one field changed, and the laws that need no state.
-/
import Derived.Test.YtegjhmhhbmnljaaDoorE6
namespace Go.Proofs.YtegjhmhhbmnljaaDoor
open Go.Lift

theorem vEntry_mk (a b c d e f g h i : Int) : V.agg [.int .i64 a, .int .i64 b, .int .i64 c, .int .i64 d, .int .i64 e, .int .i64 f, .int .i64 g, .int .i64 h, .int .i64 i] = vEntry ⟨a, b, c, d, e, f, g, h, i⟩ := rfl
attribute [simp low] vEntry_mk

noncomputable def CEB := mkC [(16, shapeSp), (25, nameSp)]
theorem CEB_ok : SpecsOk Tryd.prog CEB := mkC_ok (all_cons shape_spec (all_cons name_spec all_nil))
@[simp] theorem CEB_1 : CEB 16 = shapeSp := rfl
@[simp] theorem CEB_2 : CEB 25 = nameSp := rfl

noncomputable def trueE6 := fam (fun _ : Unit => []) (fun _ => []) (fun _ => True) (fun _ => ⟨.bool true, []⟩)
@[simp] theorem trueE6_eq : trueE6 [] [] = some ⟨.bool true, []⟩ := fam_eq (A := fun _ : Unit => []) (fun _ _ _ _ => rfl) () trivial
set_option maxRecDepth 100000 in
theorem awake6_spec : Lift.Spec Tryd.prog 12 trueE6 := by
  refine spec_fam (C := CEB) types_ok CEB_ok follows Tryd.func12 (by kernel_rfl) rfl (by kernel_rfl) rfl ?_
  rintro u _
  refine ⟨by simp, ?_⟩
  intro r hr
  have h1 : shapeE ⟨14, 0, -1, -1, -1, 0, 0, 0, 0⟩ = true := by decide
  have h2 : shapeE ⟨0, 0, 0, 0, 0, 0, 0, 0, 0⟩ = false := by decide
  have h3 : kindName 3 = ⟨#[99, 117, 116]⟩ := rfl
  have h4 : kindName 0 = ⟨#[]⟩ := rfl
  simp [h1, h2, h3, h4]
  ((repeat refine ⟨⟨by kernel_rfl, by kernel_rfl⟩, ?_⟩); rw [hr]; refine ret_closed rfl ?_ rfl; simp)

def spoilt (e : GEntry) (w b : Int) : GEntry :=
  if w % 9 = 0 then { e with Kind := b } else if w % 9 = 1 then { e with Tick := b } else if w % 9 = 2 then { e with Tenant := b } else if w % 9 = 3 then { e with Cell := b } else if w % 9 = 4 then { e with Other := b }
  else if w % 9 = 5 then { e with Epoch := b } else if w % 9 = 6 then { e with From := b } else if w % 9 = 7 then { e with Until := b } else { e with N := b }
theorem spoilt_ok {e : GEntry} (h : GEntry.ok e) (w : Int) {b : Int} (hb : In64 b) : GEntry.ok (spoilt e w b) := by
  obtain ⟨h1, h2, h3, h4, h5, h6, h7, h8, h9⟩ := h
  unfold spoilt
  repeat' split
  all_goals exact ⟨by assumption, by assumption, by assumption, by assumption, by assumption, by assumption, by assumption, by assumption, by assumption⟩
noncomputable def spoiltSp := fam (fun i : GEntry × Int × Int => [vEntry i.1, .int .i64 i.2.1, .int .i64 i.2.2]) (fun _ : GEntry × Int × Int => []) (fun _ : GEntry × Int × Int => True) (fun i : GEntry × Int × Int => ⟨vEntry (spoilt i.1 i.2.1 i.2.2), []⟩)
@[simp] theorem spoiltSp_eq {e : GEntry} {w : Int} {b : Int}  : spoiltSp ([vEntry e, .int .i64 w, .int .i64 b]) ([]) = some (⟨vEntry (spoilt e w b), []⟩) :=
  fam_eq (A := fun i : GEntry × Int × Int => [vEntry i.1, .int .i64 i.2.1, .int .i64 i.2.2]) (O := fun _ : GEntry × Int × Int => []) (res := fun i : GEntry × Int × Int => ⟨vEntry (spoilt i.1 i.2.1 i.2.2), []⟩) (by rintro ⟨a0, a1, a2⟩ ⟨b0, b1, b2⟩ h h' <;> simp at h h' <;> simp_all) (e, w, b) trivial

set_option maxHeartbeats 40000000 in
theorem spoilt_spec : Lift.Spec Tryd.prog 14 spoiltSp := by
  refine spec_fam (C := CM1) types_ok CM1_ok follows Tryd.func14 (by kernel_rfl) rfl (by kernel_rfl) rfl ?_
  rintro ⟨e, w, b⟩ _
  refine ⟨by simp, ?_⟩
  intro r hr
  have h1 := Int.emod_nonneg w (show (9 : Int) ≠ 0 by decide)
  have h2 := Int.emod_lt_of_pos w (show (0 : Int) < 9 by decide)
  have hd : ∀ m : Int, w % 9 = m → spoilt e w b = if m = 0 then { e with Kind := b } else if m = 1 then { e with Tick := b } else if m = 2 then { e with Tenant := b } else if m = 3 then { e with Cell := b } else if m = 4 then { e with Other := b }
    else if m = 5 then { e with Epoch := b } else if m = 6 then { e with From := b } else if m = 7 then { e with Until := b } else { e with N := b } := fun m hm => by rw [← hm]; rfl
  have h9 : w % 9 = 0 ∨ w % 9 = 1 ∨ w % 9 = 2 ∨ w % 9 = 3 ∨ w % 9 = 4 ∨ w % 9 = 5 ∨ w % 9 = 6 ∨ w % 9 = 7 ∨ w % 9 = 8 := by omega
  rcases h9 with h | h | h | h | h | h | h | h | h
  all_goals
    have hs := hd _ h
    simp [GEntry.cells, h]
    rw [hr]; refine ret_closed rfl ?_ rfl
    simp [hs]

noncomputable def CEL := mkC [(12, trueE6), (31, modSp), (15, betweenSp), (14, spoiltSp), (16, shapeSp), (17, shapeSp), (25, nameSp), (26, nameSp), (24, bytesESp), (23, sameSp)]
theorem CEL_ok : SpecsOk Tryd.prog CEL := mkC_ok (all_cons awake6_spec (all_cons mod_spec (all_cons between_spec (all_cons spoilt_spec (all_cons shape_spec (all_cons refshape_spec (all_cons name_spec (all_cons refname_spec (all_cons bytesE_spec (all_cons same_spec all_nil))))))))))
@[simp] theorem CEL_1 : CEL 12 = trueE6 := rfl
@[simp] theorem CEL_2 : CEL 31 = modSp := rfl
@[simp] theorem CEL_3 : CEL 15 = betweenSp := rfl
@[simp] theorem CEL_4 : CEL 14 = spoiltSp := rfl
@[simp] theorem CEL_5 : CEL 16 = shapeSp := rfl
@[simp] theorem CEL_6 : CEL 17 = shapeSp := rfl
@[simp] theorem CEL_7 : CEL 25 = nameSp := rfl
@[simp] theorem CEL_8 : CEL 26 = nameSp := rfl
@[simp] theorem CEL_9 : CEL 24 = bytesESp := rfl
@[simp] theorem CEL_10 : CEL 23 = sameSp := rfl

theorem law_EntryName : Lift.Spec Tryd.prog 7 (fam (fun i : Int => [V.int .i64 i]) (fun _ => []) (fun _ : Int => True) (fun _ => ⟨.bool true, []⟩)) := by
  refine spec_fam (C := CEL) types_ok CEL_ok follows Tryd.func7 (by kernel_rfl) rfl (by kernel_rfl) rfl ?_
  rintro k _
  refine ⟨by simp, ?_⟩
  intro r hr
  simp
  ((repeat refine ⟨⟨by kernel_rfl, by kernel_rfl⟩, ?_⟩); rw [hr]; refine ret_closed rfl ?_ rfl; simp)

theorem law_EntryKinds : Lift.Spec Tryd.prog 4 (fam (fun i : Int × Int × Int × Int × Int × Int × Int × Int => [V.int .i64 i.1, .int .i64 i.2.1, .int .i64 i.2.2.1, .int .i64 i.2.2.2.1, .int .i64 i.2.2.2.2.1, .int .i64 i.2.2.2.2.2.1, .int .i64 i.2.2.2.2.2.2.1, .int .i64 i.2.2.2.2.2.2.2]) (fun _ => []) (fun _ : Int × Int × Int × Int × Int × Int × Int × Int => True) (fun _ => ⟨.bool true, []⟩)) := by
  refine spec_fam (C := CEL) types_ok CEL_ok follows Tryd.func4 (by kernel_rfl) rfl (by kernel_rfl) rfl ?_
  rintro ⟨a, b, c, d, e, f, g, h⟩ _
  refine ⟨by simp, ?_⟩
  intro r hr
  simp [GEntry.cells]
  ((repeat refine ⟨⟨by kernel_rfl, by kernel_rfl⟩, ?_⟩); rw [hr]; refine ret_closed rfl ?_ rfl; simp)

theorem encTo_inj : ∀ {a b : List Int}, a.length = b.length → (∀ n ∈ a, In64 n) → (∀ n ∈ b, In64 n) → encTo a = encTo b → a = b
  | [], [], _, _, _, _ => rfl
  | x :: a, y :: b, hl, ha, hb, h => by
    have e1 : encTo (x :: a) = enc (code x) ++ encTo a := by simp [encTo]
    have e2 : encTo (y :: b) = enc (code y) ++ encTo b := by simp [encTo]
    rw [e1, e2] at h
    have h1 := takeT_enc (ha x (List.mem_cons_self ..)) (encTo a)
    have h2 := takeT_enc (hb y (List.mem_cons_self ..)) (encTo b)
    rw [h, h2] at h1
    have hxy : y = x := congrArg (·.1) h1
    subst hxy
    rw [encTo_inj (by simpa using hl) (fun n hn => ha n (List.mem_cons_of_mem _ hn)) (fun n hn => hb n (List.mem_cons_of_mem _ hn)) (List.append_cancel_left h)]
theorem bytesE_inj {a b : GEntry} (ha : GEntry.ok a) (hb : GEntry.ok b) : bytesE a = bytesE b ↔ a = b := by
  refine ⟨fun h => ?_, fun h => by rw [h]⟩
  have := encTo_inj (a := entL a) (b := entL b) rfl (entL_64 ha) (entL_64 hb) h
  cases a; cases b
  simpa [entL] using this

theorem law_EntryUnlike : Lift.Spec Tryd.prog 10 (fam (fun i : GEntry × GEntry × Int × Int => [vEntry i.1, vEntry i.2.1, .int .i64 i.2.2.1, .int .i64 i.2.2.2]) (fun _ => []) (fun i : GEntry × GEntry × Int × Int => (GEntry.ok i.1) ∧ (GEntry.ok i.2.1) ∧ (In64 i.2.2.2)) (fun _ => ⟨.bool true, []⟩)) := by
  refine spec_fam (C := CEL) types_ok CEL_ok follows Tryd.func10 (by kernel_rfl) rfl (by kernel_rfl) rfl ?_
  rintro ⟨a, b, w, y⟩ ⟨h1, h2, h3⟩
  try simp only at h1 h2 h3
  refine ⟨by simp, ?_⟩
  intro r hr
  have h4 := spoilt_ok h1 w h3
  have q1 := bytesE_inj h1 h2
  have q2 := bytesE_inj h1 h4
  generalize hs : spoilt a w y = c at *
  simp [GEntry.cells, h1, h2, h4, q1, q2, hs]
  ((repeat refine ⟨⟨by kernel_rfl, by kernel_rfl⟩, ?_⟩); rw [hr]; refine ret_closed rfl ?_ rfl; simp)
end Go.Proofs.YtegjhmhhbmnljaaDoor
