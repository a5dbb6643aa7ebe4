/-
  Texts: PF1, PF2, E1, E2, E3, E5, E4, E6, E9, L28, L29, L30, Q0, QY, K1, K2, K5, K6, K7, K8, K9, KA, KB, KL, KM, KN, KO, KC, KD, KE, KF, KG, KH, E7, Q1, Q2, Q3, Q4, Q6, Q7, Q8, Q9, Q5, QA, QB, QC, QD.
-/
import Derived.Test.YtcpdgbncekdicaaGreatW3
set_option linter.unusedSimpArgs false
set_option linter.unusedVariables false
namespace Go.Proofs.YtcpdgbncekdicaaGreat
open Go.Lift
noncomputable def zf6 := fam (fun i : Nat × (List UInt8) => [V.sl i.1 1 (zaf i.2)]) (fun _ => []) (fun i => (NilOk i.1 i.2) ∧ (i.2.length ≤ 140737488355328)) (fun i => ⟨.own 0 0 i.2.length,[rowOf i.2]⟩)
@[simp] theorem cloneSp_eq {t : Nat} {l : List UInt8} (h1 : NilOk t l) (h2 : l.length ≤ 140737488355328) : zf6 ([V.sl t 1 (zaf l)]) ([]) = some (⟨.own 0 0 l.length,[rowOf l]⟩) :=
 zai (by rintro ⟨a0,a1⟩ ⟨b0,b1⟩ h h' <;> simp at h h' <;> simp_all) (t,l) ⟨h1,h2⟩
theorem zi2 : Lift.Spec Tryz.prog 156 zf6 := by
 refine zaj (C := C0) zac C0_ok follows Tryz.func156 (by kernel_rfl) rfl (by kernel_rfl) rfl ?_
 rintro ⟨t,l⟩ ⟨h0,hl⟩
 simp only at h0 hl
 refine ⟨by simp,?_⟩
 intro r hr
 have hl' : (l.length : Int) ≤ 140737488355328 := by omega
 by_cases ht : t = 0
 ·have := h0 ht
  subst this; subst ht
  simp
  rw [hr]
  refine Ret.weak (zb5 [.inr 2] rfl ?_ ?_ (by simp) ?_ ?_ ?_ ?_) (zcs (sz := 1) 2 77 (rowOf []) ?_ ?_ ?_) <;> simp [rowOf]
 ·by_cases hc : nnB t l.isEmpty = true
  ·simp [ht,hc,hl']
   rw [hr]; refine zh2 rfl rfl ?_ (by simp [rowOf])
   simp [rowOf]
  ·have : l = [] := by cases l with | nil => rfl | cons a l => exact absurd (by simp) hc
   subst this
   simp at hc
   simp [ht,hc]
   rw [hr]
   refine ⟨?_,?_⟩
   ·refine Ret.weak (zb5 [.inr 2] rfl ?_ ?_ (by simp) ?_ ?_ ?_ ?_) (zcs (sz := 1) 2 77 (rowOf []) ?_ ?_ ?_) <;> simp [rowOf]
   ·refine zh2 rfl rfl ?_ (by simp [rowOf])
    simp [rowOf]
noncomputable def znH := fam (fun i : Nat => [V.sl 0 1 [],.int .i64 i]) (fun _ => []) (fun i => (i ≤ 140737488355328)) (fun _ => ⟨.own 0 0 0,[rowOf []]⟩)
@[simp] theorem growSp_eq {n : Nat} (h1 : n ≤ 140737488355328) : znH ([V.sl 0 1 [],.int .i64 n]) ([]) = some (⟨.own 0 0 0,[rowOf []]⟩) :=
 zai (by intro a b h h' <;> simp at h h' <;> simp_all) n h1
theorem zq5 : Lift.Spec Tryz.prog 197 znH := by
 refine zaj (C := C0) zac C0_ok follows Tryz.func197 (by kernel_rfl) rfl (by kernel_rfl) rfl ?_
 intro n hn
 refine ⟨by simp,?_⟩
 intro r hr
 have w1 : IntKind.i64.wrap (n : Int) = (n : Int) := w64
 have h1 : (n : Int) ≤ 140737488355328 := by omega
 have h0 : ¬ ((n : Int) < 0) := by omega
 by_cases hz : n = 0
 ·subst hz
  simp
  rw [hr]
  refine Ret.weak (zb5 [.inr 4] rfl ?_ ?_ (by simp) ?_ ?_ ?_ ?_) (zcs (sz := 1) 4 77 (rowOf []) ?_ ?_ ?_) <;> simp [rowOf]
 ·have hp : (0 : Int) < (n : Int) := by omega
  have hp' : 0 < n := by omega
  simp [h0,hp',w1,h1]
  rw [hr]
  refine Ret.weak (zb5 [.inr 4] rfl ?_ ?_ (by simp) ?_ ?_ ?_ ?_) (zsR 0 144 ⟨5,1,List.replicate n [.int .u8 0],false,2,.rw⟩ ?_) <;> simp [rowOf,hp']
def zbE (ls : List (Nat × List UInt8)) : List (List V) := ls.map fun p => [.sl p.1 1 (zaf p.2)]
def za0 (ls : List (Nat × List UInt8)) : List UInt8 := (ls.map (·.2)).flatten
@[simp] theorem partRow_length (l : List (Nat × List UInt8)) : (zbE l).length = l.length := by simp [zbE]
@[simp] theorem partRow_get (l : List (Nat × List UInt8)) (n : Nat) : (zbE l)[n]? = (l[n]?).map fun b => [V.sl b.1 1 (zaf b.2)] := by simp [zbE]
@[simp] theorem partRow_getElem (l : List (Nat × List UInt8)) (n : Nat) (h : n < (zbE l).length) : (zbE l)[n] = [V.sl (l[n]'(by simpa using h)).1 1 (zaf (l[n]'(by simpa using h)).2)] := by simp [zbE]
theorem zne {a b : List (Nat × List UInt8)} (h : zbE a = zbE b) : a = b := by
 induction a generalizing b with
 | nil => cases b with
  | nil => rfl
  | cons => cases h
 | cons x a ih => cases b with
  | nil => cases h
  | cons y b =>
   simp only [zbE,List.map_cons,List.cons.injEq] at h
   obtain ⟨h1,h2⟩ := h
   simp at h1
   rw [ih h2,Prod.ext h1.1 h1.2]
@[simp] theorem partRow_eq {a b : List (Nat × List UInt8)} : zbE a = zbE b ↔ a = b := ⟨zne,fun h => by rw [h]⟩
noncomputable def zkq := fam (fun i : Nat × (List (Nat × List UInt8)) => [V.sl i.1 1 (zbE i.2)]) (fun _ => []) (fun i => ((za0 i.2).length ≤ 140737488351232) ∧ (i.2.length ≤ 1000)) (fun i => ⟨.own 0 0 (za0 i.2).length,[rowOf (za0 i.2)]⟩)
theorem zqs {u : Nat} {ls : List (Nat × List UInt8)} (h1 : (za0 ls).length ≤ 140737488351232) (h2 : ls.length ≤ 1000) : zkq ([V.sl u 1 (zbE ls)]) ([]) = some (⟨.own 0 0 (za0 ls).length,[rowOf (za0 ls)]⟩) :=
 zai (by rintro ⟨a0,a1⟩ ⟨b0,b1⟩ h h' <;> simp at h h' <;> simp_all) (u,ls) ⟨h1,h2⟩
@[simp] theorem joinSp_three {u t1 t2 t3 : Nat} {a b c : List UInt8} (h : a.length + b.length + c.length ≤ 140737488351232) : zkq [V.sl u 1 [[V.sl t1 1 (zaf a)],[V.sl t2 1 (zaf b)],[V.sl t3 1 (zaf c)]]] [] = some ⟨.own 0 0 (a.length + b.length + c.length),[rowOf (a ++ b ++ c)]⟩ := by
 have := zqs (u := u) (ls := [(t1,a),(t2,b),(t3,c)]) (by simp [za0]; omega) (by simp)
 simp only [zbE,za0,List.map_cons,List.map_nil] at this
 rw [this]
 simp [Nat.add_assoc]
noncomputable def CF1 := mkC [(197,znH)]
theorem zvZ : zan Tryz.prog CF1 := zay (zab zq5 zar)
@[simp] theorem CF1_1 : CF1 197 = znH := rfl
theorem zij (a b : List (Nat × List UInt8)) : za0 (a ++ b) = za0 a ++ za0 b := by simp [za0]
theorem zga {ls : List (Nat × List UInt8)} {i : Nat} {x : Nat × List UInt8} (hx : ls[i]? = some x) : za0 (ls.take (i + 1)) = za0 (ls.take i) ++ x.2 := by
 simp [za0,List.take_add_one,hx]
theorem ziM (ls : List (Nat × List UInt8)) (i : Nat) : (za0 (ls.take i)).length ≤ (za0 ls).length := by
 have : za0 ls = za0 (ls.take i) ++ za0 (ls.drop i) := by
  rw [← zij,List.take_append_drop]
 rw [this]; simp
def jnSt1 (u : Nat) (ls : List (Nat × List UInt8)) (i : Nat) : St :=
 mkSt [(0,.sl u 1 (zbE ls)),(3,.int .i64 (za0 (ls.take i)).length),(9,.sl u 1 (zbE ls)),(10,.int .i64 ls.length),(11,.int .i64 i)] [] 0
def jnSt2 (u : Nat) (ls : List (Nat × List UInt8)) (i : Nat) : St :=
 mkSt [(0,.sl u 1 (zbE ls)),(6,.own 0 0 (za0 (ls.take i)).length),(25,.sl u 1 (zbE ls)),(26,.int .i64 ls.length),(27,.int .i64 i)] [(0,rowOf (za0 (ls.take i)))] 1
theorem zrl : Lift.Spec Tryz.prog 178 zkq := by
 refine zaj (C := CF1) zac zvZ follows Tryz.func178 (by kernel_rfl) rfl (by kernel_rfl) rfl ?_
 rintro ⟨u,ls⟩ ⟨h1,h2⟩
 simp only at h1 h2
 refine ⟨by simp,?_⟩
 intro r hr
 simp
 refine zaz (jnSt1 u ls) (fun i => i ≤ ls.length) (fun i => ls.length - i) 0 ?_ (Nat.zero_le _) ?_
 ·refine za4 id ?_ ?_ ?_ ?_ <;> simp [za0]
 ·intro i hi
  by_cases hik : i < ls.length
  ·obtain ⟨x,hx,hx'⟩ : ∃ x,ls[i]? = some x ∧ ls[i] = x := ⟨_,List.getElem?_eq_getElem hik,rfl⟩
   have hj := zga hx
   have hle := ziM ls (i + 1)
   have w4 : IntKind.i64.wrap ((i : Int) + 1) = (i : Int) + 1 := w64
   have w5 : IntKind.i64.wrap (((za0 (ls.take i)).length : Int) + (x.2.length : Int)) = ((za0 (ls.take (i + 1))).length : Int) := by
    rw [hj,List.length_append] at *
    rw [w64]; omega
   have w6 : ¬ (((za0 (ls.take (i + 1))).length : Int) < 0) := by omega
   simp [jnSt1,hik,hx',w4,w5,w6]
   refine Again.mk (i + 1) hik ?_ ?_
   ·omega
   ·refine za4 id ?_ ?_ ?_ ?_ <;> simp
  ·have e : i = ls.length := by omega
   subst e
   have h3 : (za0 ls).length ≤ 140737488355328 := by omega
   simp [jnSt1,h3]
   refine zaz (jnSt2 u ls) (fun i => i ≤ ls.length) (fun i => ls.length - i) 0 ?_ (Nat.zero_le _) ?_
   ·refine zaF [.inr 6] ?_ ?_ ?_ ?_ <;> simp [za0,rowOf]
   ·intro i hi
    by_cases hik : i < ls.length
    ·obtain ⟨x,hx,hx'⟩ : ∃ x,ls[i]? = some x ∧ ls[i] = x := ⟨_,List.getElem?_eq_getElem hik,rfl⟩
     have hj := zga hx
     have hle := ziM ls (i + 1)
     have w4 : IntKind.i64.wrap ((i : Int) + 1) = (i : Int) + 1 := w64
     have w5 : ((za0 (ls.take i)).length : Int) + (x.2.length : Int) ≤ 140737488355328 := by
      rw [hj,List.length_append] at hle
      omega
     simp [jnSt2,hik,hx',w4,w5,rowOf]
     refine Again.mk (i + 1) hik ?_ ?_
     ·omega
     ·refine zaF [.inr 6] ?_ ?_ ?_ ?_ <;> simp [rowOf,hj]
    ·have e : i = ls.length := by omega
     subst e
     simp [jnSt2,rowOf]
     rw [hr]
     refine zb5 [.inr 2] rfl ?_ ?_ (by simp) ?_ ?_ ?_ ?_ <;> simp [rowOf]
theorem zrG : Lift.Spec Tryz.prog 153 lenSp := by
 refine zaj (C := CW) zac CW_ok follows Tryz.func153 (by kernel_rfl) rfl (by kernel_rfl) rfl ?_
 rintro ⟨t,l⟩ _
 refine ⟨by simp,?_⟩
 intro r hr
 rcases hT : takeT l with ⟨a,b,c⟩
 by_cases hc : c = 0
 ·by_cases ha : a < 0
  ·have hL : lenT l = (0,0,18) := by rw [zd3,lenT0,hT]; simp [hc,ha]
   simp [takeV,hT,hc,ha]
   rw [hr]; refine zaa rfl ?_ rfl
   simp [lenV,hL]
  ·by_cases hb : 65536 < a
   ·have hL : lenT l = (0,0,2) := by rw [zd3,lenT0,hT]; simp [hc,ha,hb]
    simp [takeV,hT,hc,ha,hb]
    rw [hr]; refine zaa rfl ?_ rfl
    simp [lenV,hL]
   ·have hL : lenT l = (a,b,0) := by rw [zd3,lenT0,hT]; simp [hc,ha,hb]
    simp [takeV,hT,hc,ha,hb]
    rw [hr]; refine zaa rfl ?_ rfl
    simp [lenV,hL]
 ·have hL : lenT l = (0,0,c) := by rw [zd3,lenT0,hT]; simp [hc]
  simp [takeV,hT,hc]
  rw [hr]; refine zaa rfl ?_ rfl
  simp [lenV,hL]
def sumB (s : Int) (i : Nat) : UInt8 := UInt8.ofNat (s.toNat / 2 ^ (8 * i))
def sumBs (s : Int) : List UInt8 := (List.range 8).map (sumB s)
@[simp] theorem zlA (s : Int) : (sumBs s).length = 8 := by simp [sumBs]
def sumTo (s : Int) (i : Nat) : List UInt8 := (List.range i).map (sumB s)
@[simp] theorem sumTo_length (s : Int) (i : Nat) : (sumTo s i).length = i := by simp [sumTo]
theorem zi4 (s : Int) (i : Nat) : sumTo s (i + 1) = sumTo s i ++ [sumB s i] := by simp [sumTo,List.range_succ]
theorem zpR (s : Int) : sumTo s 0 = [] := rfl
theorem zh1 (s : Int) : sumTo s 8 = sumBs s := rfl
theorem zmU {s : Int} (h : InU64 s) (i : Nat) : IntKind.u8.wrap (s.fdiv (2 ^ (8 * i))) = ((sumB s i).toNat : Int) := by
 unfold InU64 at h
 obtain ⟨n,rfl⟩ : ∃ n : Nat,s = n := ⟨s.toNat,by omega⟩
 have e : ((n : Int).fdiv (2 ^ (8 * i))) = ((n / 2 ^ (8 * i) : Nat) : Int) := by
  rw [Int.fdiv_eq_ediv_of_nonneg _ (Int.pow_nonneg (by omega))]
  simp
 rw [e,zid]
 simp [sumB]
noncomputable def zhX := fam (fun i : List UInt8 × Int => [V.own 0 0 i.1.length,.int .u64 i.2]) (fun i => [rowOf i.1]) (fun i => InU64 i.2 ∧ (i.1.length : Int) ≤ 140737488355318) (fun i => ⟨.own 1 0 (i.1.length + 8),[kill (rowOf i.1),rowOf (i.1 ++ sumBs i.2)]⟩)
@[simp] theorem apSumSp_eq {l : List UInt8} {n : Int} {k : Nat} (hk : k = l.length) (h : InU64 n) (h0 : (l.length : Int) ≤ 140737488355318) : zhX [V.own 0 0 k,.int .u64 n] [⟨5,1,zaf l,false,2,.rw⟩] = some ⟨.own 1 0 (l.length + 8),[kill (rowOf l),rowOf (l ++ sumBs n)]⟩ := by
 subst hk
 exact zai (A := fun i : List UInt8 × Int => [V.own 0 0 i.1.length,.int .u64 i.2]) (O := fun i => [rowOf i.1]) (fun i j h h' => by simp at h h'; rw [h',h.2]) (l,n) ⟨h,h0⟩
@[simp] theorem apSumSp_sl {a b : Nat} {c : List (List V)} {v : V} {os : List AObj} : zhX [V.sl a b c,v] os = none := zfb (fun i h _ => by simp at h)
def apSt (l : List UInt8) (s : Int) (i : Nat) : St :=
 mkSt [(0,.own (if i = 0 then 0 else 1) 0 (l.length + i)),(1,.int .u64 s),(6,.int .i64 i)] (if i = 0 then [(0,rowOf l)] else [(0,kill (rowOf l)),(1,rowOf (l ++ sumTo s i))]) 2
theorem zoG : Lift.Spec Tryz.prog 176 zhX := by
 refine zaj (C := C0) zac C0_ok follows Tryz.func176 (by kernel_rfl) rfl (by kernel_rfl) rfl ?_
 rintro ⟨l,s⟩ ⟨hs,hlen⟩
 simp only at hs hlen
 refine ⟨by simp,?_⟩
 intro r hr
 simp
 refine zaz (apSt l s) (fun i => i ≤ 8) (fun i => 8 - i) 0 ?_ (Nat.zero_le _) ?_
 ·refine za4 id ?_ ?_ ?_ ?_ <;> simp [rowOf]
 ·intro i hi
  by_cases hik : i < 8
  ·have w1 : IntKind.i64.wrap (8 * (i : Int)) = 8 * (i : Int) := w64
   have w2 : (min (8 * (i : Int)).toNat 64) = 8 * i := by omega
   have w0 : ¬ (8 * (i : Int) < 0) := by omega
   have w4 : IntKind.i64.wrap ((i : Int) + 1) = (i : Int) + 1 := w64
   have w5 : (l.length : Int) + (i : Int) + 1 ≤ 140737488355328 := by omega
   have hik' : (i : Int) < 8 := by omega
   by_cases h0 : i = 0
   ·subst h0
    have hb := zmU hs 0
    simp at hb
    have w6 : (l.length : Int) + 1 ≤ 140737488355328 := by omega
    have hsum : sumTo s 1 = [sumB s 0] := rfl
    simp [apSt,rowOf,hb,w6,zc6]
    refine Again.mk 1 ?_ ?_ ?_
    ·omega
    ·omega
    ·refine zaF [.inl 0,.inr 0] ?_ ?_ ?_ ?_ <;> simp [rowOf,hsum]
   ·simp [apSt,rowOf,h0,hik',w0,w1,w2,w5,zmU hs,zc6]
    refine Again.mk (i + 1) ?_ ?_ ?_
    ·omega
    ·omega
    ·refine zaF [.inl 0,.inr 0] ?_ ?_ ?_ ?_ <;> simp [rowOf,zi4,w4,Nat.add_assoc]
  ·have e : i = 8 := by omega
   subst e
   simp [apSt,rowOf]
   rw [hr,← zh1]
   refine zb5 [.inl 0,.inr 4] rfl ?_ ?_ (by simp) ?_ ?_ ?_ ?_ <;> simp [rowOf]
def backN : List UInt8 → Nat
 | [] => 0
 | x :: l => x.toNat + 256 * backN l
theorem zgc : ∀ (a b : List UInt8),backN (a ++ b) = backN a + 2 ^ (8 * a.length) * backN b
 | [],b => by simp [backN]
 | x :: a,b => by
  have : 2 ^ (8 * (a.length + 1)) = 256 * 2 ^ (8 * a.length) := by rw [show 8 * (a.length + 1) = 8 * a.length + 8 by omega,Nat.pow_add]; omega
  simp only [List.cons_append,backN,zgc a b,List.length_cons,this]
  rw [Nat.mul_add,Nat.mul_assoc]; omega
theorem zjP : ∀ l : List UInt8,backN l < 2 ^ (8 * l.length)
 | [] => by simp [backN]
 | x :: l => by
  have := zjP l
  have h2 : 2 ^ (8 * (l.length + 1)) = 256 * 2 ^ (8 * l.length) := by rw [show 8 * (l.length + 1) = 8 * l.length + 8 by omega,Nat.pow_add]; omega
  have := x.toNat_lt
  simp only [backN,List.length_cons,h2]
  omega
theorem ztN {c y k : Nat} (hc : c < 2 ^ k) (hy : c + y * 2 ^ k < 18446744073709551616) : iOr .u64 (c : Int) (IntKind.u64.wrap ((y : Int) * 2 ^ k)) = ((c + y * 2 ^ k : Nat) : Int) := by
 have e1 : (y : Int) * 2 ^ k = ((y * 2 ^ k : Nat) : Int) := by simp
 have e2 : y * 2 ^ k < 18446744073709551616 := by omega
 rw [e1,zaG (x := ((y * 2 ^ k : Nat) : Int)) (by omega) (by omega)]
 have : (BitVec.ofInt 64 (c : Int) ||| BitVec.ofInt 64 ((y * 2 ^ k : Nat) : Int)).toNat = c + y * 2 ^ k := by
  rw [BitVec.toNat_or,BitVec.ofInt_natCast,BitVec.ofInt_natCast,BitVec.toNat_ofNat,BitVec.toNat_ofNat,Nat.mod_eq_of_lt (by omega),Nat.mod_eq_of_lt (by omega),Nat.or_comm,Nat.mul_comm y,← Nat.two_pow_add_eq_or_of_lt hc]
  omega
 show IntKind.u64.wrap ((BitVec.ofInt 64 (c : Int) ||| BitVec.ofInt 64 ((y * 2 ^ k : Nat) : Int)).toNat : Int) = _
 rw [this]
 exact zaG (by omega) (by omega)
theorem ziG {l : List UInt8} {i : Nat} {x : UInt8} (hx : l[i]? = some x) (hi : i < 8) : iOr .u64 (backN (l.take i) : Int) (IntKind.u64.wrap ((x.toNat : Int) * 2 ^ (8 * i))) = (backN (l.take (i + 1)) : Int) := by
 have hl : i < l.length := (List.getElem?_eq_some_iff.1 hx).1
 have h1 : (l.take i).length = i := by rw [List.length_take]; omega
 have h2 := zjP (l.take i)
 rw [h1] at h2
 have h3 : backN (l.take (i + 1)) = backN (l.take i) + x.toNat * 2 ^ (8 * i) := by
  rw [List.take_add_one,hx,zgc,h1]
  simp [backN,Nat.mul_comm]
 have h4 := zjP (l.take (i + 1))
 have h5 : (l.take (i + 1)).length = i + 1 := by rw [List.length_take]; omega
 rw [h5] at h4
 have h6 : 2 ^ (8 * (i + 1)) ≤ 2 ^ 64 := Nat.pow_le_pow_right (by decide) (by omega)
 have h7 : (2 : Nat) ^ 64 = 18446744073709551616 := by decide
 rw [ztN h2 (by omega),h3]
noncomputable def zhy := fam (fun i : Nat × (List UInt8) => [V.sl i.1 1 (zaf i.2)]) (fun _ => []) (fun i => (i.2.length ≤ 8)) (fun i => ⟨.int .u64 (backN i.2),[]⟩)
@[simp] theorem backSp_eq {t : Nat} {l : List UInt8} (h1 : l.length ≤ 8) : zhy ([V.sl t 1 (zaf l)]) ([]) = some (⟨.int .u64 (backN l),[]⟩) :=
 zai (by rintro ⟨a0,a1⟩ ⟨b0,b1⟩ h h' <;> simp at h h' <;> simp_all) (t,l) h1
def bkSt (t : Nat) (l : List UInt8) (i : Nat) : St :=
 mkSt [(0,.sl t 1 (zaf l)),(3,.int .u64 (backN (l.take i))),(6,.sl t 1 (zaf l)),(7,.int .i64 l.length),(8,.int .i64 i)] [] 0
theorem zru : Lift.Spec Tryz.prog 154 zhy := by
 refine zaj (C := C0) zac C0_ok follows Tryz.func154 (by kernel_rfl) rfl (by kernel_rfl) rfl ?_
 rintro ⟨t,l⟩ hl
 simp only at hl
 refine ⟨by simp,?_⟩
 intro r hr
 simp
 refine zaz (bkSt t l) (fun i => i ≤ l.length) (fun i => l.length - i) 0 ?_ (Nat.zero_le _) ?_
 ·refine za4 id ?_ ?_ ?_ ?_ <;> simp [backN]
 ·intro i hi
  by_cases hik : i < l.length
  ·obtain ⟨x,hx,hx'⟩ : ∃ x,l[i]? = some x ∧ l[i] = x := ⟨_,List.getElem?_eq_getElem hik,rfl⟩
   have w1 : IntKind.i64.wrap (8 * (i : Int)) = 8 * (i : Int) := w64
   have w2 : (min (8 * (i : Int)).toNat 64) = 8 * i := by omega
   have w0 : ¬ (8 * (i : Int) < 0) := by omega
   have w4 : IntKind.i64.wrap ((i : Int) + 1) = (i : Int) + 1 := w64
   have w6 : IntKind.u64.wrap (x.toNat : Int) = (x.toNat : Int) := zaG (by omega) (by have := x.toNat_lt; omega)
   simp [bkSt,hik,hx',w0,w1,w2,w4,w6,ziG hx (by omega)]
   refine Again.mk (i + 1) ?_ ?_ ?_
   ·omega
   ·omega
   ·refine za4 id ?_ ?_ ?_ ?_ <;> simp
  ·have e : i = l.length := by omega
   subst e
   simp [bkSt]
   rw [hr]; refine zaa rfl ?_ rfl
   simp
def rbSt (t : Nat) (l : List UInt8) (i : Nat) : St :=
 mkSt [(0,.sl t 1 (zaf l)),(3,.int .u64 (backN (l.take i))),(4,.int .i64 i)] [] 0
theorem zk8 : Lift.Spec Tryz.prog 158 zhy := by
 refine zaj (C := C0) zac C0_ok follows Tryz.func158 (by kernel_rfl) rfl (by kernel_rfl) rfl ?_
 rintro ⟨t,l⟩ hl
 simp only at hl
 refine ⟨by simp,?_⟩
 intro r hr
 simp
 refine zaz (rbSt t l) (fun i => i ≤ l.length) (fun i => l.length - i) 0 ?_ (Nat.zero_le _) ?_
 ·refine za4 id ?_ ?_ ?_ ?_ <;> simp [backN]
 ·intro i hi
  by_cases hik : i < l.length
  ·obtain ⟨x,hx,hx'⟩ : ∃ x,l[i]? = some x ∧ l[i] = x := ⟨_,List.getElem?_eq_getElem hik,rfl⟩
   have w1 : IntKind.i64.wrap (8 * (i : Int)) = 8 * (i : Int) := w64
   have w5 : IntKind.u64.wrap (8 * (i : Int)) = 8 * (i : Int) := zaG (by omega) (by omega)
   have w2 : (min (8 * (i : Int)).toNat 64) = 8 * i := by omega
   have w0 : ¬ (8 * (i : Int) < 0) := by omega
   have w4 : IntKind.i64.wrap ((i : Int) + 1) = (i : Int) + 1 := w64
   have w6 : IntKind.u64.wrap (x.toNat : Int) = (x.toNat : Int) := zaG (by omega) (by have := x.toNat_lt; omega)
   have h8 : (i : Int) < 8 := by omega
   simp [rbSt,hik,h8,hx',w0,w1,w2,w4,w5,w6,ziG hx (by omega)]
   refine Again.mk (i + 1) ?_ ?_ ?_
   ·omega
   ·omega
   ·refine za4 id ?_ ?_ ?_ ?_ <;> simp
  ·have e : i = l.length := by omega
   subst e
   by_cases h8 : (l.length : Int) < 8
   ·simp [rbSt,h8]
    rw [hr]; refine zaa rfl ?_ rfl
    simp
   ·simp [rbSt,h8]
    rw [hr]; refine zaa rfl ?_ rfl
    simp
noncomputable def zj3 := fam (fun i : Nat × (List UInt8) × Int => [V.sl i.1 1 (zaf i.2.1),.int .u64 i.2.2]) (fun _ => []) (fun i => (InU64 i.2.2) ∧ ((i.2.1.length : Int) ≤ 140737488355318)) (fun i => ⟨.own 0 0 (i.2.1.length + 8),[rowOf (i.2.1 ++ sumBs i.2.2)]⟩)
@[simp] theorem eightSp_eq {t : Nat} {l : List UInt8} {s : Int} (h1 : InU64 s) (h2 : (l.length : Int) ≤ 140737488355318) : zj3 ([V.sl t 1 (zaf l),.int .u64 s]) ([]) = some (⟨.own 0 0 (l.length + 8),[rowOf (l ++ sumBs s)]⟩) :=
 zai (by rintro ⟨a0,a1,a2⟩ ⟨b0,b1,b2⟩ h h' <;> simp at h h' <;> simp_all) (t,l,s) ⟨h1,h2⟩
def egSt (l : List UInt8) (s : Int) (i : Nat) : St :=
 mkSt [(1,.int .u64 s),(5,.own 0 0 (l.length + i)),(6,.int .i64 i)] [(0,rowOf (l ++ sumTo s i))] 1
theorem zpT : Lift.Spec Tryz.prog 139 zj3 := by
 refine zaj (C := C0) zac C0_ok follows Tryz.func139 (by kernel_rfl) rfl (by kernel_rfl) rfl ?_
 rintro ⟨t,l,s⟩ ⟨hs,hlen⟩
 simp only at hs hlen
 refine ⟨by simp,?_⟩
 intro r hr
 have hl' : (l.length : Int) ≤ 140737488355328 := by omega
 simp [hl']
 refine zaz (egSt l s) (fun i => i ≤ 8) (fun i => 8 - i) 0 ?_ (Nat.zero_le _) ?_
 ·refine zaF [.inr 5] ?_ ?_ ?_ ?_ <;> simp [rowOf,zpR]
 ·intro i hi
  by_cases hik : i < 8
  ·have w1 : IntKind.i64.wrap (8 * (i : Int)) = 8 * (i : Int) := w64
   have w2 : (min (8 * (i : Int)).toNat 64) = 8 * i := by omega
   have w0 : ¬ (8 * (i : Int) < 0) := by omega
   have w4 : IntKind.i64.wrap ((i : Int) + 1) = (i : Int) + 1 := w64
   have w6 : IntKind.u64.wrap (8 * (i : Int)) = 8 * (i : Int) := zaG (by omega) (by omega)
   have w5 : (l.length : Int) + (i : Int) + 1 ≤ 140737488355328 := by omega
   have hik' : (i : Int) < 8 := by omega
   simp [egSt,rowOf,hik',w0,w1,w2,w5,w6,zmU hs,zc6]
   refine Again.mk (i + 1) ?_ ?_ ?_
   ·omega
   ·omega
   ·refine zaF [.inr 5] ?_ ?_ ?_ ?_ <;> simp [rowOf,zi4,w4,Nat.add_assoc]
  ·have e : i = 8 := by omega
   subst e
   simp [egSt,rowOf]
   rw [hr,← zh1]
   refine zb5 [.inr 4] rfl ?_ ?_ (by simp) ?_ ?_ ?_ ?_ <;> simp [rowOf]
theorem zuG (h : Int) (l : List UInt8) : InU64 (allI h l) := zl7 _ _
theorem zuv (key : Int) (l : List UInt8) : InU64 (sumI key l) := by rw [zmJ]; exact zuG _ _
attribute [simp] zuv
noncomputable def frB : Int → List UInt8 → List UInt8 := hush fun key p => enc (code p.length) ++ sumBs (sumI key p) ++ p
theorem zqk (key : Int) (p : List UInt8) : frB key p = enc (code p.length) ++ sumBs (sumI key p) ++ p := by unfold frB; rw [zdo]
noncomputable def putB (key : Int) (b p : List UInt8) : List UInt8 := if 65536 < p.length then b else b ++ frB key p
noncomputable def CF3 := mkC [(156,zf6),(178,zkq),(176,zhX),(177,intSp),(155,sumSp),(109,intSp),(140,sumSp),(139,zj3)]
theorem zwa : zan Tryz.prog CF3 := zay (zab zi2 (zab zrl (zab zoG (zab zgT (zab znY (zab zeV (zab zhd (zab zpT zar))))))))
@[simp] theorem CF3_1 : CF3 156 = zf6 := rfl
@[simp] theorem CF3_2 : CF3 178 = zkq := rfl
@[simp] theorem CF3_3 : CF3 176 = zhX := rfl
@[simp] theorem CF3_4 : CF3 177 = intSp := rfl
@[simp] theorem CF3_5 : CF3 155 = sumSp := rfl
@[simp] theorem CF3_6 : CF3 109 = intSp := rfl
@[simp] theorem CF3_7 : CF3 140 = sumSp := rfl
@[simp] theorem CF3_8 : CF3 139 = zj3 := rfl
noncomputable def putSp := fam (fun i : Nat × (List UInt8) × Int × Nat × (List UInt8) => [V.sl i.1 1 (zaf i.2.1),.int .i64 i.2.2.1,.sl i.2.2.2.1 1 (zaf i.2.2.2.2)]) (fun _ => []) (fun i => (NilOk i.1 i.2.1) ∧ (In64 i.2.2.1) ∧ (i.2.1.length ≤ 140737488200000) ∧ (i.2.2.2.2.length ≤ 9223372036854775807)) (fun i => ⟨.own 0 0 (putB i.2.2.1 i.2.1 i.2.2.2.2).length,[rowOf (putB i.2.2.1 i.2.1 i.2.2.2.2)]⟩)
@[simp] theorem zsN {t : Nat} {b : List UInt8} {key : Int} {u : Nat} {p : List UInt8} (h1 : NilOk t b) (h2 : In64 key) (h3 : b.length ≤ 140737488200000) (h4 : p.length ≤ 9223372036854775807) : putSp ([V.sl t 1 (zaf b),.int .i64 key,.sl u 1 (zaf p)]) ([]) = some (⟨.own 0 0 (putB key b p).length,[rowOf (putB key b p)]⟩) :=
 zai (by rintro ⟨a0,a1,a2,a3,a4⟩ ⟨b0,b1,b2,b3,b4⟩ h h' <;> simp at h h' <;> simp_all) (t,b,key,u,p) ⟨h1,h2,h3,h4⟩
theorem zty : Lift.Spec Tryz.prog 148 putSp := by
 refine zaj (C := CF3) zac zwa follows Tryz.func148 (by kernel_rfl) rfl (by kernel_rfl) rfl ?_
 rintro ⟨t,b,key,u,p⟩ ⟨h0,hk,hb,hp⟩
 simp only at h0 hk hb hp
 refine ⟨by simp,?_⟩
 intro r hr
 have hp' : (p.length : Int) ≤ 9223372036854775807 := by omega
 by_cases hbig : 65536 < p.length
 ·have h1 : putB key b p = b := by simp [putB,hbig]
  have h2 : b.length ≤ 140737488355328 := by omega
  have h3 : (65536 : Int) < (p.length : Int) := by omega
  simp [h3,h0,h2]
  simp only [h1] at hr
  rw [hr]
  refine zb5 [.inr 6] rfl ?_ ?_ (by simp) ?_ ?_ ?_ ?_ <;> simp [rowOf]
 ·have h1 : putB key b p = b ++ frB key p := by simp [putB,hbig]
  have h3 : ¬ (65536 : Int) < (p.length : Int) := by omega
  have hn : In64 (p.length : Int) := by unfold In64; omega
  have he := zeR _ (zdk hn)
  have h4 : ((enc (code (p.length : Int))).length : Int) ≤ 140737488355318 := by omega
  have h5 : b.length + ((enc (code (p.length : Int))).length + 8) + p.length ≤ 140737488351232 := by omega
  simp [h3,zlh hn,hk,hp',h4,h5,rowOf]
  have h6 : (b ++ (enc (code (p.length : Int)) ++ (sumBs (sumI key p) ++ p))) = putB key b p := by rw [h1,zqk]; simp
  have h7 : b.length + ((enc (code (p.length : Int))).length + 8) + p.length = (putB key b p).length := by rw [← h6]; simp; omega
  rw [hr]
  have h8 : ((enc (code (p.length : Int))) ++ sumBs (sumI key p)).take ((enc (code (p.length : Int))).length + 8) = enc (code (p.length : Int)) ++ sumBs (sumI key p) := List.take_of_length_le (by simp)
  refine zb5 [.inr 6] rfl ?_ ?_ (by simp) ?_ ?_ ?_ ?_ <;> simp [rowOf,h6,h7,h8]
noncomputable def frT0 (key : Int) (b : List UInt8) : List UInt8 × Int × Int :=
 if (lenT b).2.2 = 0 then
  (if b.length < (lenT b).2.1.toNat + 8 + (lenT b).1.toNat then ([],0,17)
  else if (backN ((b.drop (lenT b).2.1.toNat).take 8) : Int) = sumI key ((b.drop ((lenT b).2.1.toNat + 8)).take (lenT b).1.toNat) then ((b.drop ((lenT b).2.1.toNat + 8)).take (lenT b).1.toNat,(lenT b).2.1 + 8 + (lenT b).1,0) else ([],0,18))
 else ([],0,(lenT b).2.2)
noncomputable def frT : Int → List UInt8 → List UInt8 × Int × Int := hush frT0
theorem zn7 (key : Int) (b : List UInt8) : frT key b = frT0 key b := by unfold frT; rw [zdo]
def frRes (x : List UInt8 × Int × Int) : CRes := if x.2.2 = 0 then ⟨.tup [.own 0 0 x.1.length,.int .i64 x.2.1,.int .i64 0],[rowOf x.1]⟩ else ⟨.tup [.sl 0 1 [],.int .i64 0,.int .i64 x.2.2],[]⟩
theorem zno (p : List UInt8) (n : Int) : frRes (p,n,0) = ⟨.tup [.own 0 0 p.length,.int .i64 n,.int .i64 0],[rowOf p]⟩ := by simp [frRes]
theorem ze4 (p : List UInt8) (n e : Int) (h : ¬ e = 0) : frRes (p,n,e) = ⟨.tup [.sl 0 1 [],.int .i64 0,.int .i64 e],[]⟩ := by simp [frRes,h]
theorem zhH (key : Int) (b : List UInt8) : (∃ e,¬ e = 0 ∧ frT key b = ([],0,e) ∧ lenT b = (0,0,e)) ∨ ∃ n k : Nat,lenT b = ((n : Int),(k : Int),0) ∧ n ≤ 65536 ∧ 1 ≤ k ∧ k ≤ 10 ∧ k ≤ b.length ∧ (∃ rest,b = enc (code (n : Int)) ++ rest ∧ k = (enc (code (n : Int))).length) ∧
 ((b.length < k + 8 + n ∧ frT key b = ([],0,17)) ∨ (k + 8 + n ≤ b.length ∧ ¬ (backN ((b.drop k).take 8) : Int) = sumI key ((b.drop (k + 8)).take n) ∧ frT key b = ([],0,18)) ∨
   (k + 8 + n ≤ b.length ∧ (backN ((b.drop k).take 8) : Int) = sumI key ((b.drop (k + 8)).take n) ∧ frT key b = ((b.drop (k + 8)).take n,(k : Int) + 8 + n,0))) := by
 rcases zo0 b with ⟨e,he,hL⟩ | ⟨n,k,hL,hn,hk,hk1,hk2,hr⟩
 ·exact .inl ⟨e,he,by rw [zn7,frT0,hL]; simp [he],hL⟩
 ·refine .inr ⟨n,k,hL,hn,hk1,hk2,hk,hr,?_⟩
  by_cases hs : b.length < k + 8 + n
  ·exact .inl ⟨hs,by rw [zn7,frT0,hL]; simp [hs]⟩
  ·by_cases hq : (backN ((b.drop k).take 8) : Int) = sumI key ((b.drop (k + 8)).take n)
   ·exact .inr (.inr ⟨by omega,hq,by rw [zn7,frT0,hL]; simp [hs,hq]⟩)
   ·exact .inr (.inl ⟨by omega,hq,by rw [zn7,frT0,hL]; simp [hs,hq]⟩)
noncomputable def zgU := fam (fun i : Nat × (List UInt8) × Int => [V.sl i.1 1 (zaf i.2.1),.int .i64 i.2.2]) (fun _ => []) (fun i => (NilOk i.1 i.2.1) ∧ (In64 i.2.2) ∧ (i.2.1.length ≤ 140737488355328)) (fun i => frRes (frT i.2.2 i.2.1))
@[simp] theorem zl9 {t : Nat} {b : List UInt8} {key : Int} (h1 : NilOk t b) (h2 : In64 key) (h3 : b.length ≤ 140737488355328) : zgU ([V.sl t 1 (zaf b),.int .i64 key]) ([]) = some (frRes (frT key b)) :=
 zai (by rintro ⟨a0,a1,a2⟩ ⟨b0,b1,b2⟩ h h' <;> simp at h h' <;> simp_all) (t,b,key) ⟨h1,h2,h3⟩
noncomputable def CF4 := mkC [(156,zf6),(153,lenSp),(154,zhy),(155,sumSp),(136,zcX),(140,sumSp),(158,zhy)]
theorem zv5 : zan Tryz.prog CF4 := zay (zab zi2 (zab zrG (zab zru (zab znY (zab zdX (zab zhd (zab zk8 zar)))))))
@[simp] theorem CF4_1 : CF4 156 = zf6 := rfl
@[simp] theorem CF4_2 : CF4 153 = lenSp := rfl
@[simp] theorem CF4_3 : CF4 154 = zhy := rfl
@[simp] theorem CF4_4 : CF4 155 = sumSp := rfl
@[simp] theorem CF4_5 : CF4 136 = zcX := rfl
@[simp] theorem CF4_6 : CF4 140 = sumSp := rfl
@[simp] theorem CF4_7 : CF4 158 = zhy := rfl
theorem zlL : Lift.Spec Tryz.prog 132 zgU := by
 refine zaj (C := CF4) zac zv5 follows Tryz.func132 (by kernel_rfl) rfl (by kernel_rfl) rfl ?_
 rintro ⟨t,b,key⟩ ⟨h0,hkey,hb⟩
 simp only at h0 hkey hb
 refine ⟨by simp,?_⟩
 intro r hr
 rcases zhH key b with ⟨e,he,hT,hL⟩ | ⟨n,k,hL,hn,hk1,hk2,hk,_,hc⟩
 ·simp [lenV,hL,he]
  rw [hr]
  simp only [hT,ze4 _ _ _ he]
  refine zaa rfl ?_ rfl
  simp
 ·have w1 : IntKind.i64.wrap ((k : Int) + 8) = (k : Int) + 8 := w64
  have w2 : IntKind.i64.wrap ((k : Int) + 8 + (n : Int)) = (k : Int) + 8 + (n : Int) := w64
  have ht0 : t ≠ 0 := fun h => by rw [h0 h] at hk; simp at hk; omega
  rcases hc with ⟨hs,hT⟩ | hc
  ·have hs' : (b.length : Int) < (k : Int) + 8 + (n : Int) := by omega
   simp [lenV,hL,w1,w2,hs']
   rw [hr]
   simp only [hT]
   rw [ze4 _ _ _ (by decide)]
   refine zaa rfl ?_ rfl
   simp
  ·have hs : k + 8 + n ≤ b.length := by rcases hc with hc | hc <;> exact hc.1
   have hs' : ¬ (b.length : Int) < (k : Int) + 8 + (n : Int) := by omega
   have q1 : (k : Int) + 8 + (n : Int) ≤ (b.length : Int) := by omega
   have q2 : (k : Int) + 8 ≤ (k : Int) + 8 + (n : Int) := by omega
   have q3 : (k : Int) ≤ (k : Int) + 8 := by omega
   have q4 : (k : Int) + 8 ≤ (b.length : Int) := by omega
   have e1 : ((k : Int) + 8).toNat = k + 8 := by omega
   have e2 : ((k : Int) + 8 + (n : Int)).toNat - (k + 8) = n := by omega
   have q0 : (0 : Int) ≤ (k : Int) + 8 := by omega
   have q5 : ((b.drop k).take 8).length ≤ 8 := by rw [List.length_take]; omega
   have q6 : (((b.drop (k + 8)).take n).length : Int) ≤ 9223372036854775807 := by rw [List.length_take]; omega
   have q7 : ((b.drop (k + 8)).take n).length ≤ 140737488355328 := by rw [List.length_take]; omega
   have e3 : k + 8 - k = 8 := by omega
   have q8 : ((b.drop (k + 8)).take n).length = n := by rw [List.length_take,List.length_drop]; omega
   have hnil : ∀ c,NilOk (zdg t c) ((b.drop (k + 8)).take n) := fun c => zq1 ht0
   simp only [List.length_take,List.length_drop] at q5 q6 q7 q8
   simp [lenV,hL,w1,w2,hs',q0,q1,q2,q3,q4,q5,q6,e1,e2,e3,hkey]
   rcases hc with ⟨_,hq,hT⟩ | ⟨_,hq,hT⟩
   ·simp [hq]
    rw [hr]
    simp only [hT]
    rw [ze4 _ _ _ (by decide)]
    refine zaa rfl ?_ rfl
    simp
   ·simp [hq,hnil,q7]
    rw [hr]
    simp only [hT]
    rw [zno]
    refine zb5 [.inr 4] rfl ?_ ?_ (by simp) ?_ ?_ ?_ ?_ <;> simp [rowOf,q8]
theorem zrD (key : Int) (b : List UInt8) : (∃ e,¬ e = 0 ∧ frT key b = ([],0,e)) ∨ ∃ (p : List UInt8) (n : Nat),frT key b = (p,(n : Int),0) ∧ 9 ≤ n ∧ n ≤ b.length ∧ p.length ≤ 65536 := by
 rcases zhH key b with ⟨e,he,hT,hL⟩ | ⟨n,k,hL,hn,hk1,hk2,hk,_,hc⟩
 ·exact .inl ⟨e,he,hT⟩
 ·rcases hc with ⟨_,hT⟩ | ⟨_,_,hT⟩ | ⟨hs,_,hT⟩
  ·exact .inl ⟨17,by decide,hT⟩
  ·exact .inl ⟨18,by decide,hT⟩
  ·exact .inr ⟨(b.drop (k + 8)).take n,k + 8 + n,by rw [hT]; simp,by omega,hs,by rw [List.length_take]; omega⟩
noncomputable def allGo (key : Int) : Nat → List UInt8 → Nat → List (List UInt8) → List (List UInt8) × Nat
 | 0,_,at_,acc => (acc,at_)
 | f + 1,b,at_,acc => if (frT key (b.drop at_)).2.2 = 0 then allGo key f b (at_ + (frT key (b.drop at_)).2.1.toNat) (acc ++ [(frT key (b.drop at_)).1]) else (acc,at_)
theorem ziK (key : Int) (b : List UInt8) : ∀ (f at_ : Nat) (acc : List (List UInt8)),b.length + 1 ≤ f + at_ → at_ ≤ b.length → allGo key (f + 1) b at_ acc = allGo key f b at_ acc
 | 0,at_,acc,h,h2 => by omega
 | f + 1,at_,acc,h,h2 => by
  rw [allGo]
  conv => rhs; rw [allGo]
  rcases zrD key (b.drop at_) with ⟨e,he,hT⟩ | ⟨p,n,hT,h9,hle,_⟩
  ·rw [hT,if_neg he,if_neg he]
  ·rw [hT,if_pos rfl,if_pos rfl]
   simp only [Int.toNat_natCast]
   rw [List.length_drop] at hle
   exact ziK key b f _ _ (by omega) (by omega)
theorem zkw (key : Int) (b : List UInt8) (at_ : Nat) (acc : List (List UInt8)) (h2 : at_ ≤ b.length) : ∀ d,allGo key (b.length + 1 - at_ + d) b at_ acc = allGo key (b.length + 1 - at_) b at_ acc
 | 0 => rfl
 | d + 1 => by rw [← Nat.add_assoc,ziK key b _ _ _ (by omega) h2,zkw key b at_ acc h2 d]
noncomputable def allAt (key : Int) (b : List UInt8) (at_ : Nat) (acc : List (List UInt8)) : List (List UInt8) × Nat := allGo key (b.length + 1 - at_) b at_ acc
theorem zrK {key : Int} {b : List UInt8} {at_ : Nat} {acc : List (List UInt8)} (h : at_ ≤ b.length) {e : Int} (he : ¬ e = 0) (hT : frT key (b.drop at_) = ([],0,e)) : allAt key b at_ acc = (acc,at_) := by
 unfold allAt
 rw [show b.length + 1 - at_ = (b.length - at_) + 1 by omega,allGo,hT,if_neg he]
theorem ztk {key : Int} {b : List UInt8} {at_ : Nat} {acc : List (List UInt8)} (h : at_ ≤ b.length) {p : List UInt8} {n : Nat} (hn : 1 ≤ n) (hle : at_ + n ≤ b.length) (hT : frT key (b.drop at_) = (p,(n : Int),0)) : allAt key b at_ acc = allAt key b (at_ + n) (acc ++ [p]) := by
 unfold allAt
 rw [show b.length + 1 - at_ = (b.length - at_) + 1 by omega,allGo,hT,if_pos rfl]
 simp only [Int.toNat_natCast]
 have := zkw key b (at_ + n) (acc ++ [p]) hle (n - 1)
 rw [← this]
 congr 1
 omega
noncomputable def allT : Int → List UInt8 → List (List UInt8) × Nat := hush fun key b => allAt key b 0 []
theorem zuz (key : Int) (b : List UInt8) : allT key b = allAt key b 0 [] := by unfold allT; rw [zdo]
def recOf (ls : List (List UInt8)) : AObj := ⟨113,1,zaS ls,false,1,.rw⟩
def zhU (x : List (List UInt8) × Nat) : CRes := ⟨.tup [.own 0 0 x.1.length,.int .i64 x.2],[recOf x.1]⟩
end Go.Proofs.YtcpdgbncekdicaaGreat

namespace Go.Proofs.YtcpdgbncekdicaaGreat
open Go.Lift
theorem zuN {key : Int} {p : List UInt8} : (frB key p).length = (enc (code (p.length : Int))).length + 8 + p.length := by
 rw [zqk]; simp [Nat.add_assoc]
noncomputable def zcS (key : Int) (l : List (List UInt8)) : List UInt8 := (l.map (frB key)).flatten
theorem zir (key : Int) (a b : List (List UInt8)) : zcS key (a ++ b) = zcS key a ++ zcS key b := by simp [zcS]
end Go.Proofs.YtcpdgbncekdicaaGreat

namespace Go.Proofs.YtcpdgbncekdicaaGreat
open Go.Lift
attribute [simp] zbb
attribute [simp high] zlG
structure GR where
 a0 : Int
 a1 : Int
 b0 : Int
 b1 : Int
 c0 : Int
 c1 : Int
 d0 : Int
 d1 : Int
 e0 : Int
 e1 : Int
 f0 : Int
 f1 : Int
 g0 : Int
 g1 : Int
def GR.cells (r : GR) : List V := [.int .i64 r.a0,.int .i64 r.a1,.int .i64 r.b0,.int .i64 r.b1,.int .i64 r.c0,.int .i64 r.c1,.int .i64 r.d0,.int .i64 r.d1,.int .i64 r.e0,.int .i64 r.e1,.int .i64 r.f0,.int .i64 r.f1,.int .i64 r.g0,.int .i64 r.g1]
theorem GR.cells_inj {r s : GR} (h : r.cells = s.cells) : r = s := by
 cases r; cases s; simp [GR.cells] at h; simp [h]
def rngK (k t c r v : Int) : GR :=
 if k = 1 then ⟨0,t - 1,0,c - 1,-1,c - 1,0,0,0,0,0,0,0,0⟩
 else if k = 2 then ⟨0,t - 1,0,c - 1,-1,-1,1,1048576,0,1073741824,0,1073741824,0,v - 1⟩
 else if k = 3 then ⟨0,t - 1,-1,-1,-1,-1,1,1048576,0,0,0,0,0,0⟩
 else if k = 4 then ⟨0,t - 1,-1,c - 1,-1,-1,0,0,0,0,0,0,0,0⟩
 else if k = 5 then ⟨0,t - 1,0,c - 1,-1,-1,0,0,0,0,0,0,0,0⟩
 else if k = 6 then ⟨0,t - 1,0,c - 1,-1,-1,0,0,0,0,0,0,0,0⟩
 else if k = 7 then ⟨0,t - 1,-1,-1,-1,-1,0,0,0,0,0,0,0,0⟩
 else if k = 8 then ⟨0,t - 1,-1,-1,-1,-1,0,0,0,0,0,0,0,1⟩
 else if k = 9 then ⟨-1,-1,0,c - 1,-1,-1,0,0,0,0,0,0,1,3⟩
 else if k = 10 then ⟨-1,-1,0,c - 1,-1,-1,0,0,0,0,0,0,0,v - 1⟩
 else if k = 11 then ⟨-1,-1,0,c - 1,-1,-1,0,0,0,0,0,0,0,v - 1⟩
 else if k = 12 then ⟨-1,-1,-1,-1,-1,-1,0,0,0,0,0,0,0,v - 1⟩
 else if k = 13 then ⟨-1,-1,-1,-1,0,r - 1,0,0,0,0,0,0,0,1⟩
 else if k = 14 then ⟨-1,-1,-1,-1,-1,-1,0,0,0,0,0,0,0,0⟩
 else if k = 15 then ⟨-1,-1,-1,-1,-1,-1,0,0,0,0,0,0,0,0⟩
 else if k = 16 then ⟨-1,-1,-1,-1,-1,-1,0,0,0,0,0,0,0,1073741824⟩
 else ⟨0,0,0,0,0,0,0,0,0,0,0,0,0,0⟩
noncomputable def zdA := fam (fun i : Int × Int × Int => [V.agg [.int .i64 i.1,.int .i64 i.2.1],.int .i64 i.2.2]) (fun _ => []) (fun _ => True) (fun i => ⟨.bool (inB i.2.2 i.1 i.2.1),[]⟩)
@[simp] theorem spanHasSp_eq {lo hi n : Int}  : zdA ([V.agg [.int .i64 lo,.int .i64 hi],.int .i64 n]) ([]) = some (⟨.bool (inB n lo hi),[]⟩) :=
 zai (by rintro ⟨a0,a1,a2⟩ ⟨b0,b1,b2⟩ h h' <;> simp at h h' <;> simp_all) (lo,hi,n) trivial
theorem zgk : Lift.Spec Tryz.prog 152 zdA := by
 refine zaj (C := C0) zac C0_ok follows Tryz.func152 (by kernel_rfl) rfl (by kernel_rfl) rfl ?_
 rintro ⟨lo,hi,n⟩ _
 refine ⟨by simp,?_⟩
 intro r hr
 by_cases h : lo ≤ n <;> simp [h]
 all_goals (rw [hr]; refine zaa rfl ?_ rfl; simp [inB,h])
noncomputable def zfv := fam (fun i : Int => [V.int .i64 i]) (fun _ => []) (fun i => (0 ≤ i) ∧ (i ≤ 9223372036854775807)) (fun i => ⟨.agg [.int .i64 0,.int .i64 (i - 1)],[]⟩)
@[simp] theorem indicesSp_eq {n : Int} (h1 : 0 ≤ n) (h2 : n ≤ 9223372036854775807) : zfv ([V.int .i64 n]) ([]) = some (⟨.agg [.int .i64 0,.int .i64 (n - 1)],[]⟩) :=
 zai (by intro a b h h' <;> simp at h h' <;> simp_all) n ⟨h1,h2⟩
theorem zla : Lift.Spec Tryz.prog 180 zfv := by
 refine zaj (C := C0) zac C0_ok follows Tryz.func180 (by kernel_rfl) rfl (by kernel_rfl) rfl ?_
 rintro n ⟨h1,h2⟩
 try simp only at h1 h2
 refine ⟨by simp,?_⟩
 intro r hr
 have w : IntKind.i64.wrap (n - 1) = n - 1 := w64
 simp [w]
 rw [hr]; refine zaa rfl ?_ rfl
 simp
noncomputable def zgX := fam (fun i : Int × Int => [V.agg [.int .i64 i.1,.int .i64 i.2]]) (fun _ => []) (fun _ => True) (fun i => ⟨.agg [.int .i64 (-1),.int .i64 i.2],[]⟩)
@[simp] theorem orNoneSp_eq {lo hi : Int}  : zgX ([V.agg [.int .i64 lo,.int .i64 hi]]) ([]) = some (⟨.agg [.int .i64 (-1),.int .i64 hi],[]⟩) :=
 zai (by rintro ⟨a0,a1⟩ ⟨b0,b1⟩ h h' <;> simp at h h' <;> simp_all) (lo,hi) trivial
theorem zme : Lift.Spec Tryz.prog 182 zgX := by
 refine zaj (C := C0) zac C0_ok follows Tryz.func182 (by kernel_rfl) rfl (by kernel_rfl) rfl ?_
 rintro ⟨lo,hi⟩ _
 refine ⟨by simp,?_⟩
 intro r hr
 simp
 rw [hr]; refine zaa rfl ?_ rfl
 simp
noncomputable def zgI := fam (fun _ : Unit => []) (fun _ => []) (fun _ => True) (fun _ => ⟨.agg [.int .i64 (-1),.int .i64 (-1),.int .i64 (-1),.int .i64 (-1),.int .i64 (-1),.int .i64 (-1),.int .i64 0,.int .i64 0,.int .i64 0,.int .i64 0,.int .i64 0,.int .i64 0,.int .i64 0,.int .i64 0],[]⟩)
@[simp] theorem unusedSp_eq : zgI [] [] = some ⟨.agg [.int .i64 (-1),.int .i64 (-1),.int .i64 (-1),.int .i64 (-1),.int .i64 (-1),.int .i64 (-1),.int .i64 0,.int .i64 0,.int .i64 0,.int .i64 0,.int .i64 0,.int .i64 0,.int .i64 0,.int .i64 0],[]⟩ :=
 zai (A := fun _ : Unit => []) (fun _ _ _ _ => rfl) () trivial
theorem zmg : Lift.Spec Tryz.prog 181 zgI := by
 refine zaj (C := C0) zac C0_ok follows Tryz.func181 (by kernel_rfl) rfl (by kernel_rfl) rfl ?_
 rintro u _
 refine ⟨by simp,?_⟩
 intro r hr
 simp
 rw [hr]; refine zaa rfl ?_ rfl
 simp
def twB (e : GEntry) : Bool := decide (e.Kind = 1 ∧ e.Other = e.Cell)
noncomputable def zf1 := fam (fun i : GEntry => [zaD i]) (fun _ => []) (fun _ => True) (fun i => ⟨.bool (twB i),[]⟩)
@[simp] theorem twiceSp_eq {e : GEntry}  : zf1 ([zaD e]) ([]) = some (⟨.bool (twB e),[]⟩) :=
 zai (by intro a b h h' <;> simp at h h' <;> simp_all) e trivial
theorem zi0 : Lift.Spec Tryz.prog 151 zf1 := by
 refine zaj (C := C0) zac C0_ok follows Tryz.func151 (by kernel_rfl) rfl (by kernel_rfl) rfl ?_
 rintro e _
 refine ⟨by simp,?_⟩
 intro r hr
 by_cases h : e.Kind = 1 <;> simp [GEntry.cells,h]
 all_goals (rw [hr]; refine zaa rfl ?_ rfl; simp [twB,h])
noncomputable def CE1 := mkC [(152,zdA),(180,zfv),(182,zgX),(181,zgI),(151,zf1)]
theorem zvw : zan Tryz.prog CE1 := zay (zab zgk (zab zla (zab zme (zab zmg (zab zi0 zar)))))
@[simp] theorem CE1_1 : CE1 152 = zdA := rfl
@[simp] theorem CE1_2 : CE1 180 = zfv := rfl
@[simp] theorem CE1_3 : CE1 182 = zgX := rfl
@[simp] theorem CE1_4 : CE1 181 = zgI := rfl
@[simp] theorem CE1_5 : CE1 151 = zf1 := rfl
noncomputable def zgQ := fam (fun i : Int × Int × Int × Int × Int => [V.int .i64 i.1,.agg [.int .i64 i.2.1,.int .i64 i.2.2.1,.int .i64 i.2.2.2.1,.int .i64 i.2.2.2.2]]) (fun _ => []) (fun i => (0 ≤ i.2.1 ∧ i.2.1 ≤ 9223372036854775807) ∧ (0 ≤ i.2.2.1 ∧ i.2.2.1 ≤ 9223372036854775807) ∧ (0 ≤ i.2.2.2.1 ∧ i.2.2.2.1 ≤ 9223372036854775807) ∧ (0 ≤ i.2.2.2.2 ∧ i.2.2.2.2 ≤ 9223372036854775807)) (fun i => ⟨.tup [.agg (rngK i.1 i.2.1 i.2.2.1 i.2.2.2.1 i.2.2.2.2).cells,.bool (inB i.1 1 16)],[]⟩)
@[simp] theorem rangesSp_eq {k t c r v : Int} (h1 : 0 ≤ t ∧ t ≤ 9223372036854775807) (h2 : 0 ≤ c ∧ c ≤ 9223372036854775807) (h3 : 0 ≤ r ∧ r ≤ 9223372036854775807) (h4 : 0 ≤ v ∧ v ≤ 9223372036854775807) : zgQ ([V.int .i64 k,.agg [.int .i64 t,.int .i64 c,.int .i64 r,.int .i64 v]]) ([]) = some (⟨.tup [.agg (rngK k t c r v).cells,.bool (inB k 1 16)],[]⟩) :=
 zai (by rintro ⟨a0,a1,a2,a3,a4⟩ ⟨b0,b1,b2,b3,b4⟩ h h' <;> simp at h h' <;> simp_all) (k,t,c,r,v) ⟨h1,h2,h3,h4⟩
set_option maxHeartbeats 40000000 in
theorem zmK : Lift.Spec Tryz.prog 150 zgQ := by
 refine zaj (C := CE1) zac zvw follows Tryz.func150 (by kernel_rfl) rfl (by kernel_rfl) rfl ?_
 rintro ⟨k,t,c,r,v⟩ ⟨h1,h2,h3,h4⟩
 try simp only at h1 h2 h3 h4
 refine ⟨by simp,?_⟩
 intro r hr
 by_cases hk : ¬ (1 ≤ k ∧ k ≤ 16)
 ·have e : ∀ n : Int,1 ≤ n → n ≤ 16 → (k = n) = False := fun n a b => eq_false (by omega)
  simp [h1,h2,h3,h4,e]
  ((repeat refine dr ?_); rw [hr]; refine zaa rfl ?_ rfl; simp [rngK,GR.cells,inB,hk,e])
 ·replace hk : 1 ≤ k ∧ k ≤ 16 := Classical.byContradiction hk
  have : k = 1 ∨ k = 2 ∨ k = 3 ∨ k = 4 ∨ k = 5 ∨ k = 6 ∨ k = 7 ∨ k = 8 ∨ k = 9 ∨ k = 10 ∨ k = 11 ∨ k = 12 ∨ k = 13 ∨ k = 14 ∨ k = 15 ∨ k = 16 := by omega
  clear hk
  rcases this with rfl | rfl | rfl | rfl | rfl | rfl | rfl | rfl | rfl | rfl | rfl | rfl | rfl | rfl | rfl | rfl
  all_goals
   simp [h1,h2,h3,h4]
   ((repeat refine dr ?_); rw [hr]; refine zaa rfl ?_ rfl; simp [rngK,GR.cells,inB])
noncomputable def CE2 := mkC [(152,zdA),(151,zf1),(150,zgQ)]
theorem zvu : zan Tryz.prog CE2 := zay (zab zgk (zab zi0 (zab zmK zar)))
@[simp] theorem CE2_1 : CE2 152 = zdA := rfl
@[simp] theorem CE2_2 : CE2 151 = zf1 := rfl
@[simp] theorem CE2_3 : CE2 150 = zgQ := rfl
def inR (e : GEntry) (R : GR) : Bool :=
 inB e.Tick 0 1073741824 && (inB e.Tenant R.a0 R.a1 && (inB e.Cell R.b0 R.b1 && (inB e.Other R.c0 R.c1 && (inB e.Epoch R.d0 R.d1 && (inB e.From R.e0 R.e1 && (inB e.Until R.f0 R.f1 && inB e.N R.g0 R.g1))))))
def fitE (t c r v : Int) (e : GEntry) : Bool :=
 inB e.Kind 1 16 && (!(twB e) && inR e (rngK e.Kind t c r v))
noncomputable def zjK := fam (fun i : GEntry × Int × Int × Int × Int => [zaD i.1,.agg [.int .i64 i.2.1,.int .i64 i.2.2.1,.int .i64 i.2.2.2.1,.int .i64 i.2.2.2.2]]) (fun _ => []) (fun i => (0 ≤ i.2.1 ∧ i.2.1 ≤ 9223372036854775807) ∧ (0 ≤ i.2.2.1 ∧ i.2.2.1 ≤ 9223372036854775807) ∧ (0 ≤ i.2.2.2.1 ∧ i.2.2.2.1 ≤ 9223372036854775807) ∧ (0 ≤ i.2.2.2.2 ∧ i.2.2.2.2 ≤ 9223372036854775807)) (fun i => ⟨.bool (fitE i.2.1 i.2.2.1 i.2.2.2.1 i.2.2.2.2 i.1),[]⟩)
@[simp] theorem fitsESp_eq {e : GEntry} {t c g v : Int} (h1 : 0 ≤ t ∧ t ≤ 9223372036854775807) (h2 : 0 ≤ c ∧ c ≤ 9223372036854775807) (h3 : 0 ≤ g ∧ g ≤ 9223372036854775807) (h4 : 0 ≤ v ∧ v ≤ 9223372036854775807) : zjK ([zaD e,.agg [.int .i64 t,.int .i64 c,.int .i64 g,.int .i64 v]]) ([]) = some (⟨.bool (fitE t c g v e),[]⟩) :=
 zai (by rintro ⟨a0,a1,a2,a3,a4⟩ ⟨b0,b1,b2,b3,b4⟩ h h' <;> simp at h h' <;> simp_all) (e,t,c,g,v) ⟨h1,h2,h3,h4⟩
set_option maxHeartbeats 40000000 in
theorem zpU : Lift.Spec Tryz.prog 128 zjK := by
 refine zaj (C := CE2) zac zvu follows Tryz.func128 (by kernel_rfl) rfl (by kernel_rfl) rfl ?_
 rintro ⟨e,t,c,g,v⟩ ⟨h1,h2,h3,h4⟩
 try simp only at h1 h2 h3 h4
 refine ⟨by simp,?_⟩
 intro r hr
 have hR : ∃ R,R = rngK e.Kind t c g v := ⟨_,rfl⟩
 obtain ⟨R,hR⟩ := hR
 cases gg0 : inB e.Kind 1 16
 ·simp [GEntry.cells,h1,h2,h3,h4,← hR,GR.cells,gg0]
  ((repeat refine dr ?_); rw [hr]; refine zaa rfl ?_ rfl; simp [fitE,inR,← hR,gg0])
 cases gg1 : twB e
 rotate_left
 ·simp [GEntry.cells,h1,h2,h3,h4,← hR,GR.cells,gg0,gg1]
  ((repeat refine dr ?_); rw [hr]; refine zaa rfl ?_ rfl; simp [fitE,inR,← hR,gg0,gg1])
 cases gg2 : inB e.Tick 0 1073741824
 ·simp [GEntry.cells,h1,h2,h3,h4,← hR,GR.cells,gg0,gg1,gg2]
  ((repeat refine dr ?_); rw [hr]; refine zaa rfl ?_ rfl; simp [fitE,inR,← hR,gg0,gg1,gg2])
 cases gg3 : inB e.Tenant R.a0 R.a1
 ·simp [GEntry.cells,h1,h2,h3,h4,← hR,GR.cells,gg0,gg1,gg2,gg3]
  ((repeat refine dr ?_); rw [hr]; refine zaa rfl ?_ rfl; simp [fitE,inR,← hR,gg0,gg1,gg2,gg3])
 cases gg4 : inB e.Cell R.b0 R.b1
 ·simp [GEntry.cells,h1,h2,h3,h4,← hR,GR.cells,gg0,gg1,gg2,gg3,gg4]
  ((repeat refine dr ?_); rw [hr]; refine zaa rfl ?_ rfl; simp [fitE,inR,← hR,gg0,gg1,gg2,gg3,gg4])
 cases gg5 : inB e.Other R.c0 R.c1
 ·simp [GEntry.cells,h1,h2,h3,h4,← hR,GR.cells,gg0,gg1,gg2,gg3,gg4,gg5]
  ((repeat refine dr ?_); rw [hr]; refine zaa rfl ?_ rfl; simp [fitE,inR,← hR,gg0,gg1,gg2,gg3,gg4,gg5])
 cases gg6 : inB e.Epoch R.d0 R.d1
 ·simp [GEntry.cells,h1,h2,h3,h4,← hR,GR.cells,gg0,gg1,gg2,gg3,gg4,gg5,gg6]
  ((repeat refine dr ?_); rw [hr]; refine zaa rfl ?_ rfl; simp [fitE,inR,← hR,gg0,gg1,gg2,gg3,gg4,gg5,gg6])
 cases gg7 : inB e.From R.e0 R.e1
 ·simp [GEntry.cells,h1,h2,h3,h4,← hR,GR.cells,gg0,gg1,gg2,gg3,gg4,gg5,gg6,gg7]
  ((repeat refine dr ?_); rw [hr]; refine zaa rfl ?_ rfl; simp [fitE,inR,← hR,gg0,gg1,gg2,gg3,gg4,gg5,gg6,gg7])
 cases gg8 : inB e.Until R.f0 R.f1
 ·simp [GEntry.cells,h1,h2,h3,h4,← hR,GR.cells,gg0,gg1,gg2,gg3,gg4,gg5,gg6,gg7,gg8]
  ((repeat refine dr ?_); rw [hr]; refine zaa rfl ?_ rfl; simp [fitE,inR,← hR,gg0,gg1,gg2,gg3,gg4,gg5,gg6,gg7,gg8])
 simp [GEntry.cells,h1,h2,h3,h4,← hR,GR.cells,gg0,gg1,gg2,gg3,gg4,gg5,gg6,gg7,gg8]
 ((repeat refine dr ?_); rw [hr]; refine zaa rfl ?_ rfl; simp [fitE,inR,← hR,gg0,gg1,gg2,gg3,gg4,gg5,gg6,gg7,gg8])
noncomputable def CE3 := mkC [(128,zjK)]
theorem zvv : zan Tryz.prog CE3 := zay (zab zpU zar)
@[simp] theorem CE3_1 : CE3 128 = zjK := rfl
def zbj (e : GEntry) : Bool := fitE 32 16 4 30 e
noncomputable def zcY := fam (fun i : GEntry => [zaD i]) (fun _ => []) (fun _ => True) (fun i => ⟨.bool (zbj i),[]⟩)
@[simp] theorem shapeSp_eq {e : GEntry}  : zcY ([zaD e]) ([]) = some (⟨.bool (zbj e),[]⟩) :=
 zai (by intro a b h h' <;> simp at h h' <;> simp_all) e trivial
theorem zf2 : Lift.Spec Tryz.prog 104 zcY := by
 refine zaj (C := CE3) zac zvv follows Tryz.func104 (by kernel_rfl) rfl (by kernel_rfl) rfl ?_
 rintro e _
 refine ⟨by simp,?_⟩
 intro r hr
 simp [GEntry.cells]
 ((repeat refine dr ?_); rw [hr]; refine zaa rfl ?_ rfl; simp [zbj])
end Go.Proofs.YtcpdgbncekdicaaGreat

namespace Go.Proofs.YtcpdgbncekdicaaGreat
open Go.Lift
def usesN : List ByteArray := [⟨#[]⟩,⟨#[116,99,111]⟩,⟨#[116,99,101,119,118]⟩,⟨#[116,101]⟩,⟨#[116,67]⟩,⟨#[116,99]⟩,⟨#[116,99]⟩,⟨#[116]⟩,⟨#[116,98]⟩,⟨#[99,109]⟩,⟨#[99,118]⟩,⟨#[99,118]⟩,⟨#[118]⟩,⟨#[114,98]⟩,⟨#[]⟩,⟨#[]⟩,⟨#[110]⟩]
def usesS (k : Int) : ByteArray := if 1 ≤ k ∧ k < 17 then usesN.getD k.toNat ⟨#[]⟩ else ⟨#[63]⟩
def hasS (s : ByteArray) (c : Int) : Bool := s.data.toList.any fun b => decide ((b.toNat : Int) = c)
def hasK (k c : Int) : Bool := hasS (usesS k) c
theorem kinds {k : Int} (h : 1 ≤ k ∧ k ≤ 16) : k = 1 ∨ k = 2 ∨ k = 3 ∨ k = 4 ∨ k = 5 ∨ k = 6 ∨ k = 7 ∨ k = 8 ∨ k = 9 ∨ k = 10 ∨ k = 11 ∨ k = 12 ∨ k = 13 ∨ k = 14 ∨ k = 15 ∨ k = 16 := by omega
@[simp] theorem hasK_1_116 : hasK 1 116 = true := rfl
@[simp] theorem hasK_1_99 : hasK 1 99 = true := rfl
@[simp] theorem hasK_1_67 : hasK 1 67 = false := rfl
@[simp] theorem hasK_1_111 : hasK 1 111 = true := rfl
@[simp] theorem hasK_1_114 : hasK 1 114 = false := rfl
@[simp] theorem hasK_1_101 : hasK 1 101 = false := rfl
@[simp] theorem hasK_1_119 : hasK 1 119 = false := rfl
@[simp] theorem hasK_1_118 : hasK 1 118 = false := rfl
@[simp] theorem hasK_1_98 : hasK 1 98 = false := rfl
@[simp] theorem hasK_1_109 : hasK 1 109 = false := rfl
@[simp] theorem hasK_1_110 : hasK 1 110 = false := rfl
@[simp] theorem hasK_2_116 : hasK 2 116 = true := rfl
@[simp] theorem hasK_2_99 : hasK 2 99 = true := rfl
@[simp] theorem hasK_2_67 : hasK 2 67 = false := rfl
@[simp] theorem hasK_2_111 : hasK 2 111 = false := rfl
@[simp] theorem hasK_2_114 : hasK 2 114 = false := rfl
@[simp] theorem hasK_2_101 : hasK 2 101 = true := rfl
@[simp] theorem hasK_2_119 : hasK 2 119 = true := rfl
@[simp] theorem hasK_2_118 : hasK 2 118 = true := rfl
@[simp] theorem hasK_2_98 : hasK 2 98 = false := rfl
@[simp] theorem hasK_2_109 : hasK 2 109 = false := rfl
@[simp] theorem hasK_2_110 : hasK 2 110 = false := rfl
@[simp] theorem hasK_3_116 : hasK 3 116 = true := rfl
@[simp] theorem hasK_3_99 : hasK 3 99 = false := rfl
@[simp] theorem hasK_3_67 : hasK 3 67 = false := rfl
@[simp] theorem hasK_3_111 : hasK 3 111 = false := rfl
@[simp] theorem hasK_3_114 : hasK 3 114 = false := rfl
@[simp] theorem hasK_3_101 : hasK 3 101 = true := rfl
@[simp] theorem hasK_3_119 : hasK 3 119 = false := rfl
@[simp] theorem hasK_3_118 : hasK 3 118 = false := rfl
@[simp] theorem hasK_3_98 : hasK 3 98 = false := rfl
@[simp] theorem hasK_3_109 : hasK 3 109 = false := rfl
@[simp] theorem hasK_3_110 : hasK 3 110 = false := rfl
@[simp] theorem hasK_4_116 : hasK 4 116 = true := rfl
@[simp] theorem hasK_4_99 : hasK 4 99 = false := rfl
@[simp] theorem hasK_4_67 : hasK 4 67 = true := rfl
@[simp] theorem hasK_4_111 : hasK 4 111 = false := rfl
@[simp] theorem hasK_4_114 : hasK 4 114 = false := rfl
@[simp] theorem hasK_4_101 : hasK 4 101 = false := rfl
@[simp] theorem hasK_4_119 : hasK 4 119 = false := rfl
@[simp] theorem hasK_4_118 : hasK 4 118 = false := rfl
@[simp] theorem hasK_4_98 : hasK 4 98 = false := rfl
@[simp] theorem hasK_4_109 : hasK 4 109 = false := rfl
@[simp] theorem hasK_4_110 : hasK 4 110 = false := rfl
@[simp] theorem hasK_5_116 : hasK 5 116 = true := rfl
@[simp] theorem hasK_5_99 : hasK 5 99 = true := rfl
@[simp] theorem hasK_5_67 : hasK 5 67 = false := rfl
@[simp] theorem hasK_5_111 : hasK 5 111 = false := rfl
@[simp] theorem hasK_5_114 : hasK 5 114 = false := rfl
@[simp] theorem hasK_5_101 : hasK 5 101 = false := rfl
@[simp] theorem hasK_5_119 : hasK 5 119 = false := rfl
@[simp] theorem hasK_5_118 : hasK 5 118 = false := rfl
@[simp] theorem hasK_5_98 : hasK 5 98 = false := rfl
@[simp] theorem hasK_5_109 : hasK 5 109 = false := rfl
@[simp] theorem hasK_5_110 : hasK 5 110 = false := rfl
@[simp] theorem hasK_6_116 : hasK 6 116 = true := rfl
@[simp] theorem hasK_6_99 : hasK 6 99 = true := rfl
@[simp] theorem hasK_6_67 : hasK 6 67 = false := rfl
@[simp] theorem hasK_6_111 : hasK 6 111 = false := rfl
@[simp] theorem hasK_6_114 : hasK 6 114 = false := rfl
@[simp] theorem hasK_6_101 : hasK 6 101 = false := rfl
@[simp] theorem hasK_6_119 : hasK 6 119 = false := rfl
@[simp] theorem hasK_6_118 : hasK 6 118 = false := rfl
@[simp] theorem hasK_6_98 : hasK 6 98 = false := rfl
@[simp] theorem hasK_6_109 : hasK 6 109 = false := rfl
@[simp] theorem hasK_6_110 : hasK 6 110 = false := rfl
@[simp] theorem hasK_7_116 : hasK 7 116 = true := rfl
@[simp] theorem hasK_7_99 : hasK 7 99 = false := rfl
@[simp] theorem hasK_7_67 : hasK 7 67 = false := rfl
@[simp] theorem hasK_7_111 : hasK 7 111 = false := rfl
@[simp] theorem hasK_7_114 : hasK 7 114 = false := rfl
@[simp] theorem hasK_7_101 : hasK 7 101 = false := rfl
@[simp] theorem hasK_7_119 : hasK 7 119 = false := rfl
@[simp] theorem hasK_7_118 : hasK 7 118 = false := rfl
@[simp] theorem hasK_7_98 : hasK 7 98 = false := rfl
@[simp] theorem hasK_7_109 : hasK 7 109 = false := rfl
@[simp] theorem hasK_7_110 : hasK 7 110 = false := rfl
@[simp] theorem hasK_8_116 : hasK 8 116 = true := rfl
@[simp] theorem hasK_8_99 : hasK 8 99 = false := rfl
@[simp] theorem hasK_8_67 : hasK 8 67 = false := rfl
@[simp] theorem hasK_8_111 : hasK 8 111 = false := rfl
@[simp] theorem hasK_8_114 : hasK 8 114 = false := rfl
@[simp] theorem hasK_8_101 : hasK 8 101 = false := rfl
@[simp] theorem hasK_8_119 : hasK 8 119 = false := rfl
@[simp] theorem hasK_8_118 : hasK 8 118 = false := rfl
@[simp] theorem hasK_8_98 : hasK 8 98 = true := rfl
@[simp] theorem hasK_8_109 : hasK 8 109 = false := rfl
@[simp] theorem hasK_8_110 : hasK 8 110 = false := rfl
@[simp] theorem hasK_9_116 : hasK 9 116 = false := rfl
@[simp] theorem hasK_9_99 : hasK 9 99 = true := rfl
@[simp] theorem hasK_9_67 : hasK 9 67 = false := rfl
@[simp] theorem hasK_9_111 : hasK 9 111 = false := rfl
@[simp] theorem hasK_9_114 : hasK 9 114 = false := rfl
@[simp] theorem hasK_9_101 : hasK 9 101 = false := rfl
@[simp] theorem hasK_9_119 : hasK 9 119 = false := rfl
@[simp] theorem hasK_9_118 : hasK 9 118 = false := rfl
@[simp] theorem hasK_9_98 : hasK 9 98 = false := rfl
@[simp] theorem hasK_9_109 : hasK 9 109 = true := rfl
@[simp] theorem hasK_9_110 : hasK 9 110 = false := rfl
@[simp] theorem hasK_10_116 : hasK 10 116 = false := rfl
@[simp] theorem hasK_10_99 : hasK 10 99 = true := rfl
@[simp] theorem hasK_10_67 : hasK 10 67 = false := rfl
@[simp] theorem hasK_10_111 : hasK 10 111 = false := rfl
@[simp] theorem hasK_10_114 : hasK 10 114 = false := rfl
@[simp] theorem hasK_10_101 : hasK 10 101 = false := rfl
@[simp] theorem hasK_10_119 : hasK 10 119 = false := rfl
@[simp] theorem hasK_10_118 : hasK 10 118 = true := rfl
@[simp] theorem hasK_10_98 : hasK 10 98 = false := rfl
@[simp] theorem hasK_10_109 : hasK 10 109 = false := rfl
@[simp] theorem hasK_10_110 : hasK 10 110 = false := rfl
@[simp] theorem hasK_11_116 : hasK 11 116 = false := rfl
@[simp] theorem hasK_11_99 : hasK 11 99 = true := rfl
@[simp] theorem hasK_11_67 : hasK 11 67 = false := rfl
@[simp] theorem hasK_11_111 : hasK 11 111 = false := rfl
@[simp] theorem hasK_11_114 : hasK 11 114 = false := rfl
@[simp] theorem hasK_11_101 : hasK 11 101 = false := rfl
@[simp] theorem hasK_11_119 : hasK 11 119 = false := rfl
@[simp] theorem hasK_11_118 : hasK 11 118 = true := rfl
@[simp] theorem hasK_11_98 : hasK 11 98 = false := rfl
@[simp] theorem hasK_11_109 : hasK 11 109 = false := rfl
@[simp] theorem hasK_11_110 : hasK 11 110 = false := rfl
@[simp] theorem hasK_12_116 : hasK 12 116 = false := rfl
@[simp] theorem hasK_12_99 : hasK 12 99 = false := rfl
@[simp] theorem hasK_12_67 : hasK 12 67 = false := rfl
@[simp] theorem hasK_12_111 : hasK 12 111 = false := rfl
@[simp] theorem hasK_12_114 : hasK 12 114 = false := rfl
@[simp] theorem hasK_12_101 : hasK 12 101 = false := rfl
@[simp] theorem hasK_12_119 : hasK 12 119 = false := rfl
@[simp] theorem hasK_12_118 : hasK 12 118 = true := rfl
@[simp] theorem hasK_12_98 : hasK 12 98 = false := rfl
@[simp] theorem hasK_12_109 : hasK 12 109 = false := rfl
@[simp] theorem hasK_12_110 : hasK 12 110 = false := rfl
@[simp] theorem hasK_13_116 : hasK 13 116 = false := rfl
@[simp] theorem hasK_13_99 : hasK 13 99 = false := rfl
@[simp] theorem hasK_13_67 : hasK 13 67 = false := rfl
@[simp] theorem hasK_13_111 : hasK 13 111 = false := rfl
@[simp] theorem hasK_13_114 : hasK 13 114 = true := rfl
@[simp] theorem hasK_13_101 : hasK 13 101 = false := rfl
@[simp] theorem hasK_13_119 : hasK 13 119 = false := rfl
@[simp] theorem hasK_13_118 : hasK 13 118 = false := rfl
@[simp] theorem hasK_13_98 : hasK 13 98 = true := rfl
@[simp] theorem hasK_13_109 : hasK 13 109 = false := rfl
@[simp] theorem hasK_13_110 : hasK 13 110 = false := rfl
@[simp] theorem hasK_14_116 : hasK 14 116 = false := rfl
@[simp] theorem hasK_14_99 : hasK 14 99 = false := rfl
@[simp] theorem hasK_14_67 : hasK 14 67 = false := rfl
@[simp] theorem hasK_14_111 : hasK 14 111 = false := rfl
@[simp] theorem hasK_14_114 : hasK 14 114 = false := rfl
@[simp] theorem hasK_14_101 : hasK 14 101 = false := rfl
@[simp] theorem hasK_14_119 : hasK 14 119 = false := rfl
@[simp] theorem hasK_14_118 : hasK 14 118 = false := rfl
@[simp] theorem hasK_14_98 : hasK 14 98 = false := rfl
@[simp] theorem hasK_14_109 : hasK 14 109 = false := rfl
@[simp] theorem hasK_14_110 : hasK 14 110 = false := rfl
@[simp] theorem hasK_15_116 : hasK 15 116 = false := rfl
@[simp] theorem hasK_15_99 : hasK 15 99 = false := rfl
@[simp] theorem hasK_15_67 : hasK 15 67 = false := rfl
@[simp] theorem hasK_15_111 : hasK 15 111 = false := rfl
@[simp] theorem hasK_15_114 : hasK 15 114 = false := rfl
@[simp] theorem hasK_15_101 : hasK 15 101 = false := rfl
@[simp] theorem hasK_15_119 : hasK 15 119 = false := rfl
@[simp] theorem hasK_15_118 : hasK 15 118 = false := rfl
@[simp] theorem hasK_15_98 : hasK 15 98 = false := rfl
@[simp] theorem hasK_15_109 : hasK 15 109 = false := rfl
@[simp] theorem hasK_15_110 : hasK 15 110 = false := rfl
@[simp] theorem hasK_16_116 : hasK 16 116 = false := rfl
@[simp] theorem hasK_16_99 : hasK 16 99 = false := rfl
@[simp] theorem hasK_16_67 : hasK 16 67 = false := rfl
@[simp] theorem hasK_16_111 : hasK 16 111 = false := rfl
@[simp] theorem hasK_16_114 : hasK 16 114 = false := rfl
@[simp] theorem hasK_16_101 : hasK 16 101 = false := rfl
@[simp] theorem hasK_16_119 : hasK 16 119 = false := rfl
@[simp] theorem hasK_16_118 : hasK 16 118 = false := rfl
@[simp] theorem hasK_16_98 : hasK 16 98 = false := rfl
@[simp] theorem hasK_16_109 : hasK 16 109 = false := rfl
@[simp] theorem hasK_16_110 : hasK 16 110 = true := rfl
noncomputable def zn3 := fam (fun i : Int => [V.int .i64 i]) (fun _ => []) (fun _ => True) (fun i => ⟨.str (usesS i),[]⟩)
@[simp] theorem usesSp_eq {k : Int}  : zn3 ([V.int .i64 k]) ([]) = some (⟨.str (usesS k),[]⟩) :=
 zai (by intro a b h h' <;> simp at h h' <;> simp_all) k trivial
set_option maxRecDepth 100000 in
theorem zrW : Lift.Spec Tryz.prog 203 zn3 := by
 refine zaj (C := C0) zac C0_ok follows Tryz.func203 (by kernel_rfl) rfl (by kernel_rfl) rfl ?_
 rintro k _
 refine ⟨by simp,?_⟩
 intro r hr
 by_cases h1 : k < 1
 ·simp [h1]
  ((repeat refine dr ?_); rw [hr]; refine zaa rfl ?_ rfl; simp [usesS,show ¬ (1 ≤ k ∧ k < 17) by omega])
 ·by_cases h2 : 17 ≤ k
  ·simp [h1,h2]
   ((repeat refine dr ?_); rw [hr]; refine zaa rfl ?_ rfl; simp [usesS,show ¬ (1 ≤ k ∧ k < 17) by omega])
  ·rcases kinds (k := k) (by omega) with rfl | rfl | rfl | rfl | rfl | rfl | rfl | rfl | rfl | rfl | rfl | rfl | rfl | rfl | rfl | rfl
   all_goals
    simp
    ((repeat refine dr ?_); rw [hr]; refine zaa rfl ?_ rfl; simp [usesS,usesN])
noncomputable def CE5 := mkC [(203,zn3)]
theorem zv4 : zan Tryz.prog CE5 := zay (zab zrW zar)
@[simp] theorem CE5_1 : CE5 203 = zn3 := rfl
theorem ztm {s : List UInt8} {c : Int} {i : Nat} (h : ((s.take i).any fun b => decide ((b.toNat : Int) = c)) = false) {x : UInt8} (hx : s[i]? = some x) (hc : ¬ (x.toNat : Int) = c) : ((s.take (i + 1)).any fun b => decide ((b.toNat : Int) = c)) = false := by
 rw [List.take_add_one,hx,List.any_append,h]; simp [hc]
def NotTo (s : ByteArray) (c : Int) (i : Nat) : Prop := ((s.data.toList.take i).any fun b => decide ((b.toNat : Int) = c)) = false
noncomputable def zn6 := fam (fun i : Int × Int => [V.int .i64 i.1,.int .u8 i.2]) (fun _ => []) (fun _ => True) (fun i => ⟨.bool (hasK i.1 i.2),[]⟩)
@[simp] theorem hasKSp_eq {k c : Int}  : zn6 ([V.int .i64 k,.int .u8 c]) ([]) = some (⟨.bool (hasK k c),[]⟩) :=
 zai (by rintro ⟨a0,a1⟩ ⟨b0,b1⟩ h h' <;> simp at h h' <;> simp_all) (k,c) trivial
def hasSt (s : ByteArray) (c : Int) (i : Nat) : St := mkSt [(1,.int .u8 c),(5,.str s),(6,.int .i64 i)] [] 0
theorem zlJ : ∀ s ∈ usesN,s.data.toList.length ≤ 5 := by decide
theorem zm1 (k : Int) : (usesS k).data.toList.length ≤ 5 := by
 unfold usesS
 split
 ·rename_i h
  have hk : k.toNat < usesN.length := by simp [usesN]; omega
  rw [List.getD_eq_getElem?_getD,List.getElem?_eq_getElem hk]
  exact zlJ _ (List.getElem_mem hk)
 ·decide
theorem zp7 : Lift.Spec Tryz.prog 188 zn6 := by
 refine zaj (C := CE5) zac zv4 follows Tryz.func188 (by kernel_rfl) rfl (by kernel_rfl) rfl ?_
 rintro ⟨k,c⟩ _
 refine ⟨by simp,?_⟩
 intro r hr
 simp
 have hlen := zm1 k
 have hd : hasK k c = hasS (usesS k) c := rfl
 generalize usesS k = s at *
 have hsz : s.size = s.data.toList.length := rfl
 refine zaz (hasSt s c) (fun i => i ≤ s.size ∧ NotTo s c i) (fun i => s.size - i) 0 ?_ ⟨Nat.zero_le _,by simp [NotTo]⟩ ?_
 ·refine za4 id ?_ ?_ ?_ ?_ <;> simp
 ·rintro i ⟨hi,hn⟩
  by_cases hik : i < s.size
  ·obtain ⟨x,hx,hx',_⟩ := zaT (l := s.data.toList) (k := i) (by omega)
   have hx2 : s.data[i]'hik = x := by simpa using hx'
   have w4 : IntKind.i64.wrap ((i : Int) + 1) = (i : Int) + 1 := w64
   by_cases hc : (x.toNat : Int) = c
   ·simp [hasSt,hik,hx2,hc]
    rw [hr]; refine zaa rfl ?_ rfl
    have : hasS s c = true := List.any_eq_true.2 ⟨x,List.mem_of_getElem? hx,by simp [hc]⟩
    simp [hd,this]
   ·simp [hasSt,hik,hx2,hc]
    refine Again.mk (i + 1) ⟨hik,ztm hn hx hc⟩ (by omega) ?_
    refine za4 id ?_ ?_ ?_ ?_ <;> simp [w4]
  ·have e : i = s.size := by omega
   subst e
   simp [hasSt]
   rw [hr]; refine zaa rfl ?_ rfl
   have : hasS s c = false := by unfold NotTo at hn; rw [hsz,List.take_length] at hn; exact hn
   simp [hd,this]
noncomputable def inSp := fam (fun i : Int × Int × Int => [V.int .i64 i.1,.int .i64 i.2.1,.int .i64 i.2.2]) (fun _ => []) (fun _ => True) (fun i => ⟨.bool (inB i.1 i.2.1 i.2.2),[]⟩)
@[simp] theorem inSp_eq {n lo hi : Int}  : inSp ([V.int .i64 n,.int .i64 lo,.int .i64 hi]) ([]) = some (⟨.bool (inB n lo hi),[]⟩) :=
 zai (by rintro ⟨a0,a1,a2⟩ ⟨b0,b1,b2⟩ h h' <;> simp at h h' <;> simp_all) (n,lo,hi) trivial
theorem zn4 : Lift.Spec Tryz.prog 161 inSp := by
 refine zaj (C := C0) zac C0_ok follows Tryz.func161 (by kernel_rfl) rfl (by kernel_rfl) rfl ?_
 rintro ⟨n,lo,hi⟩ _
 refine ⟨by simp,?_⟩
 intro r hr
 by_cases h : lo ≤ n <;> simp [h]
 all_goals (rw [hr]; refine zaa rfl ?_ rfl; simp [inB,h])
noncomputable def CE6 := mkC [(188,zn6),(161,inSp)]
theorem zt7 : zan Tryz.prog CE6 := zay (zab zp7 (zab zn4 zar))
@[simp] theorem CE6_1 : CE6 188 = zn6 := rfl
@[simp] theorem CE6_2 : CE6 161 = inSp := rfl
end Go.Proofs.YtcpdgbncekdicaaGreat

namespace Go.Proofs.YtcpdgbncekdicaaGreat
open Go.Lift
theorem zad (n a : Int) : inB n a a = decide (n = a) := by
 unfold inB
 exact decide_eq_decide.2 (by omega)
theorem zdQ (m : Int) : inB (-1) 0 m = false := by simp [inB]
def plR (e : GEntry) (R : GR) : Bool := inB e.Tenant R.a0 R.a1 && (inB e.Cell R.b0 R.b1 && inB e.Other R.c0 R.c1)
def zao (e : GEntry) (t c r : Int) : Bool := plR e (rngK e.Kind t c r 0) && !twB e
def nuR (e : GEntry) (R : GR) : Bool := inB e.Epoch R.d0 R.d1 && (inB e.From R.e0 R.e1 && (inB e.Until R.f0 R.f1 && inB e.N R.g0 R.g1))
def zal (e : GEntry) (v : Int) : Bool := nuR e (rngK e.Kind 0 0 0 v)
noncomputable def zgV := fam (fun i : GEntry × Int × Int × Int => [zaD i.1,.int .i64 i.2.1,.int .i64 i.2.2.1,.int .i64 i.2.2.2]) (fun _ => []) (fun i => (1 ≤ i.1.Kind ∧ i.1.Kind ≤ 16) ∧ (0 ≤ i.2.1 ∧ i.2.1 ≤ 9223372036854775807) ∧ (0 ≤ i.2.2.1 ∧ i.2.2.1 ≤ 9223372036854775807) ∧ (0 ≤ i.2.2.2 ∧ i.2.2.2 ≤ 9223372036854775807)) (fun i => ⟨.bool (zao i.1 i.2.1 i.2.2.1 i.2.2.2),[]⟩)
@[simp] theorem placesSp_eq {e : GEntry} {t c g : Int} (h1 : 1 ≤ e.Kind ∧ e.Kind ≤ 16) (h2 : 0 ≤ t ∧ t ≤ 9223372036854775807) (h3 : 0 ≤ c ∧ c ≤ 9223372036854775807) (h4 : 0 ≤ g ∧ g ≤ 9223372036854775807) : zgV ([zaD e,.int .i64 t,.int .i64 c,.int .i64 g]) ([]) = some (⟨.bool (zao e t c g),[]⟩) :=
 zai (by rintro ⟨a0,a1,a2,a3⟩ ⟨b0,b1,b2,b3⟩ h h' <;> simp at h h' <;> simp_all) (e,t,c,g) ⟨h1,h2,h3,h4⟩
set_option maxHeartbeats 40000000 in
theorem zlK : Lift.Spec Tryz.prog 162 zgV := by
 refine zaj (C := CE6) zac zt7 follows Tryz.func162 (by kernel_rfl) rfl (by kernel_rfl) rfl ?_
 rintro ⟨e,t,c,g⟩ ⟨h1,h2,h3,h4⟩
 try simp only at h1 h2 h3 h4
 refine ⟨by simp,?_⟩
 intro r hr
 have w1 : IntKind.i64.wrap (t - 1) = t - 1 := w64
 have w2 : IntKind.i64.wrap (c - 1) = c - 1 := w64
 have w3 : IntKind.i64.wrap (g - 1) = g - 1 := w64
 obtain ⟨kd,tk,tn,ce,ot,ep,fr,un,n⟩ := e
 simp only at h1
 rcases kinds h1 with rfl | rfl | rfl | rfl | rfl | rfl | rfl | rfl | rfl | rfl | rfl | rfl | rfl | rfl | rfl | rfl
 ·clear h1
  by_cases hoc : ot = ce
  ·subst hoc
   by_cases gg0 : (tn = -1)
   ·simp [GEntry.cells,gg0]
    ((repeat refine dr ?_); rw [hr]; refine zaa rfl ?_ rfl; simp [zao,plR,rngK,twB,zdQ,gg0])
   cases gg1 : inB tn 0 (t - 1)
   ·simp [GEntry.cells,w1,gg0,gg1]
    ((repeat refine dr ?_); rw [hr]; refine zaa rfl ?_ rfl; simp [zao,plR,rngK,twB,gg1])
   cases gg2 : inB ot 0 (c - 1)
   ·simp [GEntry.cells,w1,w2,gg0,gg1,gg2]
    ((repeat refine dr ?_); rw [hr]; refine zaa rfl ?_ rfl; simp [zao,plR,rngK,twB,gg1,gg2])
   cases gg3 : inB ot (-1) (c - 1)
   ·simp [GEntry.cells,w1,w2,gg0,gg1,gg2,gg3]
    ((repeat refine dr ?_); rw [hr]; refine zaa rfl ?_ rfl; simp [zao,plR,rngK,twB,gg1,gg2,gg3])
   simp [GEntry.cells,w1,w2,gg0,gg1,gg2,gg3]
   ((repeat refine dr ?_); rw [hr]; refine zaa rfl ?_ rfl; simp [zao,plR,rngK,twB,gg1,gg2,gg3])
  by_cases gg0 : (tn = -1)
  ·simp [GEntry.cells,gg0]
   ((repeat refine dr ?_); rw [hr]; refine zaa rfl ?_ rfl; simp [zao,plR,rngK,twB,zdQ,hoc,gg0])
  cases gg1 : inB tn 0 (t - 1)
  ·simp [GEntry.cells,w1,gg0,gg1]
   ((repeat refine dr ?_); rw [hr]; refine zaa rfl ?_ rfl; simp [zao,plR,rngK,twB,hoc,gg1])
  cases gg2 : inB ce 0 (c - 1)
  ·simp [GEntry.cells,w1,w2,gg0,gg1,gg2]
   ((repeat refine dr ?_); rw [hr]; refine zaa rfl ?_ rfl; simp [zao,plR,rngK,twB,hoc,gg1,gg2])
  cases gg3 : inB ot (-1) (c - 1)
  ·simp [GEntry.cells,w1,w2,gg0,gg1,gg2,gg3]
   ((repeat refine dr ?_); rw [hr]; refine zaa rfl ?_ rfl; simp [zao,plR,rngK,twB,hoc,gg1,gg2,gg3])
  simp [GEntry.cells,w1,w2,hoc,gg0,gg1,gg2,gg3]
  ((repeat refine dr ?_); rw [hr]; refine zaa rfl ?_ rfl; simp [zao,plR,rngK,twB,hoc,gg1,gg2,gg3])
 ·clear h1
  by_cases gg0 : (tn = -1)
  ·simp [GEntry.cells,gg0]
   ((repeat refine dr ?_); rw [hr]; refine zaa rfl ?_ rfl; simp [zao,plR,rngK,twB,zad,zdQ,gg0])
  cases gg1 : inB tn 0 (t - 1)
  ·simp [GEntry.cells,w1,gg0,gg1]
   ((repeat refine dr ?_); rw [hr]; refine zaa rfl ?_ rfl; simp [zao,plR,rngK,twB,zad,gg1])
  cases gg2 : inB ce 0 (c - 1)
  ·simp [GEntry.cells,w1,w2,gg0,gg1,gg2]
   ((repeat refine dr ?_); rw [hr]; refine zaa rfl ?_ rfl; simp [zao,plR,rngK,twB,zad,gg1,gg2])
  by_cases gg3 : ¬ (ot = -1)
  ·simp [GEntry.cells,w1,w2,gg0,gg1,gg2,gg3]
   ((repeat refine dr ?_); rw [hr]; refine zaa rfl ?_ rfl; simp [zao,plR,rngK,twB,zad,gg1,gg2,gg3])
  replace gg3 : ot = -1 := Classical.byContradiction gg3
  simp [GEntry.cells,w1,w2,gg0,gg1,gg2,gg3]
  ((repeat refine dr ?_); rw [hr]; refine zaa rfl ?_ rfl; simp [zao,plR,rngK,twB,zad,gg1,gg2,gg3])
 ·clear h1
  by_cases gg0 : (tn = -1)
  ·simp [GEntry.cells,gg0]
   ((repeat refine dr ?_); rw [hr]; refine zaa rfl ?_ rfl; simp [zao,plR,rngK,twB,zad,zdQ,gg0])
  cases gg1 : inB tn 0 (t - 1)
  ·simp [GEntry.cells,w1,gg0,gg1]
   ((repeat refine dr ?_); rw [hr]; refine zaa rfl ?_ rfl; simp [zao,plR,rngK,twB,zad,gg1])
  by_cases gg2 : ¬ (ce = -1)
  ·simp [GEntry.cells,w1,gg0,gg1,gg2]
   ((repeat refine dr ?_); rw [hr]; refine zaa rfl ?_ rfl; simp [zao,plR,rngK,twB,zad,gg1,gg2])
  replace gg2 : ce = -1 := Classical.byContradiction gg2
  by_cases gg3 : ¬ (ot = -1)
  ·simp [GEntry.cells,w1,gg0,gg1,gg2,gg3]
   ((repeat refine dr ?_); rw [hr]; refine zaa rfl ?_ rfl; simp [zao,plR,rngK,twB,zad,gg1,gg2,gg3])
  replace gg3 : ot = -1 := Classical.byContradiction gg3
  simp [GEntry.cells,w1,gg0,gg1,gg2,gg3]
  ((repeat refine dr ?_); rw [hr]; refine zaa rfl ?_ rfl; simp [zao,plR,rngK,twB,zad,gg1,gg2,gg3])
 ·clear h1
  by_cases gg0 : (tn = -1)
  ·simp [GEntry.cells,gg0]
   ((repeat refine dr ?_); rw [hr]; refine zaa rfl ?_ rfl; simp [zao,plR,rngK,twB,zad,zdQ,gg0])
  cases gg1 : inB tn 0 (t - 1)
  ·simp [GEntry.cells,w1,gg0,gg1]
   ((repeat refine dr ?_); rw [hr]; refine zaa rfl ?_ rfl; simp [zao,plR,rngK,twB,zad,gg1])
  cases gg2 : inB ce (-1) (c - 1)
  ·simp [GEntry.cells,w1,w2,gg0,gg1,gg2]
   ((repeat refine dr ?_); rw [hr]; refine zaa rfl ?_ rfl; simp [zao,plR,rngK,twB,zad,gg1,gg2])
  by_cases gg3 : ¬ (ot = -1)
  ·simp [GEntry.cells,w1,w2,gg0,gg1,gg2,gg3]
   ((repeat refine dr ?_); rw [hr]; refine zaa rfl ?_ rfl; simp [zao,plR,rngK,twB,zad,gg1,gg2,gg3])
  replace gg3 : ot = -1 := Classical.byContradiction gg3
  simp [GEntry.cells,w1,w2,gg0,gg1,gg2,gg3]
  ((repeat refine dr ?_); rw [hr]; refine zaa rfl ?_ rfl; simp [zao,plR,rngK,twB,zad,gg1,gg2,gg3])
 ·clear h1
  by_cases gg0 : (tn = -1)
  ·simp [GEntry.cells,gg0]
   ((repeat refine dr ?_); rw [hr]; refine zaa rfl ?_ rfl; simp [zao,plR,rngK,twB,zad,zdQ,gg0])
  cases gg1 : inB tn 0 (t - 1)
  ·simp [GEntry.cells,w1,gg0,gg1]
   ((repeat refine dr ?_); rw [hr]; refine zaa rfl ?_ rfl; simp [zao,plR,rngK,twB,zad,gg1])
  cases gg2 : inB ce 0 (c - 1)
  ·simp [GEntry.cells,w1,w2,gg0,gg1,gg2]
   ((repeat refine dr ?_); rw [hr]; refine zaa rfl ?_ rfl; simp [zao,plR,rngK,twB,zad,gg1,gg2])
  by_cases gg3 : ¬ (ot = -1)
  ·simp [GEntry.cells,w1,w2,gg0,gg1,gg2,gg3]
   ((repeat refine dr ?_); rw [hr]; refine zaa rfl ?_ rfl; simp [zao,plR,rngK,twB,zad,gg1,gg2,gg3])
  replace gg3 : ot = -1 := Classical.byContradiction gg3
  simp [GEntry.cells,w1,w2,gg0,gg1,gg2,gg3]
  ((repeat refine dr ?_); rw [hr]; refine zaa rfl ?_ rfl; simp [zao,plR,rngK,twB,zad,gg1,gg2,gg3])
 ·clear h1
  by_cases gg0 : (tn = -1)
  ·simp [GEntry.cells,gg0]
   ((repeat refine dr ?_); rw [hr]; refine zaa rfl ?_ rfl; simp [zao,plR,rngK,twB,zad,zdQ,gg0])
  cases gg1 : inB tn 0 (t - 1)
  ·simp [GEntry.cells,w1,gg0,gg1]
   ((repeat refine dr ?_); rw [hr]; refine zaa rfl ?_ rfl; simp [zao,plR,rngK,twB,zad,gg1])
  cases gg2 : inB ce 0 (c - 1)
  ·simp [GEntry.cells,w1,w2,gg0,gg1,gg2]
   ((repeat refine dr ?_); rw [hr]; refine zaa rfl ?_ rfl; simp [zao,plR,rngK,twB,zad,gg1,gg2])
  by_cases gg3 : ¬ (ot = -1)
  ·simp [GEntry.cells,w1,w2,gg0,gg1,gg2,gg3]
   ((repeat refine dr ?_); rw [hr]; refine zaa rfl ?_ rfl; simp [zao,plR,rngK,twB,zad,gg1,gg2,gg3])
  replace gg3 : ot = -1 := Classical.byContradiction gg3
  simp [GEntry.cells,w1,w2,gg0,gg1,gg2,gg3]
  ((repeat refine dr ?_); rw [hr]; refine zaa rfl ?_ rfl; simp [zao,plR,rngK,twB,zad,gg1,gg2,gg3])
 ·clear h1
  by_cases gg0 : (tn = -1)
  ·simp [GEntry.cells,gg0]
   ((repeat refine dr ?_); rw [hr]; refine zaa rfl ?_ rfl; simp [zao,plR,rngK,twB,zad,zdQ,gg0])
  cases gg1 : inB tn 0 (t - 1)
  ·simp [GEntry.cells,w1,gg0,gg1]
   ((repeat refine dr ?_); rw [hr]; refine zaa rfl ?_ rfl; simp [zao,plR,rngK,twB,zad,gg1])
  by_cases gg2 : ¬ (ce = -1)
  ·simp [GEntry.cells,w1,gg0,gg1,gg2]
   ((repeat refine dr ?_); rw [hr]; refine zaa rfl ?_ rfl; simp [zao,plR,rngK,twB,zad,gg1,gg2])
  replace gg2 : ce = -1 := Classical.byContradiction gg2
  by_cases gg3 : ¬ (ot = -1)
  ·simp [GEntry.cells,w1,gg0,gg1,gg2,gg3]
   ((repeat refine dr ?_); rw [hr]; refine zaa rfl ?_ rfl; simp [zao,plR,rngK,twB,zad,gg1,gg2,gg3])
  replace gg3 : ot = -1 := Classical.byContradiction gg3
  simp [GEntry.cells,w1,gg0,gg1,gg2,gg3]
  ((repeat refine dr ?_); rw [hr]; refine zaa rfl ?_ rfl; simp [zao,plR,rngK,twB,zad,gg1,gg2,gg3])
 ·clear h1
  by_cases gg0 : (tn = -1)
  ·simp [GEntry.cells,gg0]
   ((repeat refine dr ?_); rw [hr]; refine zaa rfl ?_ rfl; simp [zao,plR,rngK,twB,zad,zdQ,gg0])
  cases gg1 : inB tn 0 (t - 1)
  ·simp [GEntry.cells,w1,gg0,gg1]
   ((repeat refine dr ?_); rw [hr]; refine zaa rfl ?_ rfl; simp [zao,plR,rngK,twB,zad,gg1])
  by_cases gg2 : ¬ (ce = -1)
  ·simp [GEntry.cells,w1,gg0,gg1,gg2]
   ((repeat refine dr ?_); rw [hr]; refine zaa rfl ?_ rfl; simp [zao,plR,rngK,twB,zad,gg1,gg2])
  replace gg2 : ce = -1 := Classical.byContradiction gg2
  by_cases gg3 : ¬ (ot = -1)
  ·simp [GEntry.cells,w1,gg0,gg1,gg2,gg3]
   ((repeat refine dr ?_); rw [hr]; refine zaa rfl ?_ rfl; simp [zao,plR,rngK,twB,zad,gg1,gg2,gg3])
  replace gg3 : ot = -1 := Classical.byContradiction gg3
  simp [GEntry.cells,w1,gg0,gg1,gg2,gg3]
  ((repeat refine dr ?_); rw [hr]; refine zaa rfl ?_ rfl; simp [zao,plR,rngK,twB,zad,gg1,gg2,gg3])
 ·clear h1
  by_cases gg0 : ¬ (tn = -1)
  ·simp [GEntry.cells,gg0]
   ((repeat refine dr ?_); rw [hr]; refine zaa rfl ?_ rfl; simp [zao,plR,rngK,twB,zad,gg0])
  replace gg0 : tn = -1 := Classical.byContradiction gg0
  cases gg1 : inB ce 0 (c - 1)
  ·simp [GEntry.cells,w2,gg0,gg1]
   ((repeat refine dr ?_); rw [hr]; refine zaa rfl ?_ rfl; simp [zao,plR,rngK,twB,zad,gg0,gg1])
  by_cases gg2 : ¬ (ot = -1)
  ·simp [GEntry.cells,w2,gg0,gg1,gg2]
   ((repeat refine dr ?_); rw [hr]; refine zaa rfl ?_ rfl; simp [zao,plR,rngK,twB,zad,gg0,gg1,gg2])
  replace gg2 : ot = -1 := Classical.byContradiction gg2
  simp [GEntry.cells,w2,gg0,gg1,gg2]
  ((repeat refine dr ?_); rw [hr]; refine zaa rfl ?_ rfl; simp [zao,plR,rngK,twB,zad,gg0,gg1,gg2])
 ·clear h1
  by_cases gg0 : ¬ (tn = -1)
  ·simp [GEntry.cells,gg0]
   ((repeat refine dr ?_); rw [hr]; refine zaa rfl ?_ rfl; simp [zao,plR,rngK,twB,zad,gg0])
  replace gg0 : tn = -1 := Classical.byContradiction gg0
  cases gg1 : inB ce 0 (c - 1)
  ·simp [GEntry.cells,w2,gg0,gg1]
   ((repeat refine dr ?_); rw [hr]; refine zaa rfl ?_ rfl; simp [zao,plR,rngK,twB,zad,gg0,gg1])
  by_cases gg2 : ¬ (ot = -1)
  ·simp [GEntry.cells,w2,gg0,gg1,gg2]
   ((repeat refine dr ?_); rw [hr]; refine zaa rfl ?_ rfl; simp [zao,plR,rngK,twB,zad,gg0,gg1,gg2])
  replace gg2 : ot = -1 := Classical.byContradiction gg2
  simp [GEntry.cells,w2,gg0,gg1,gg2]
  ((repeat refine dr ?_); rw [hr]; refine zaa rfl ?_ rfl; simp [zao,plR,rngK,twB,zad,gg0,gg1,gg2])
 ·clear h1
  by_cases gg0 : ¬ (tn = -1)
  ·simp [GEntry.cells,gg0]
   ((repeat refine dr ?_); rw [hr]; refine zaa rfl ?_ rfl; simp [zao,plR,rngK,twB,zad,gg0])
  replace gg0 : tn = -1 := Classical.byContradiction gg0
  cases gg1 : inB ce 0 (c - 1)
  ·simp [GEntry.cells,w2,gg0,gg1]
   ((repeat refine dr ?_); rw [hr]; refine zaa rfl ?_ rfl; simp [zao,plR,rngK,twB,zad,gg0,gg1])
  by_cases gg2 : ¬ (ot = -1)
  ·simp [GEntry.cells,w2,gg0,gg1,gg2]
   ((repeat refine dr ?_); rw [hr]; refine zaa rfl ?_ rfl; simp [zao,plR,rngK,twB,zad,gg0,gg1,gg2])
  replace gg2 : ot = -1 := Classical.byContradiction gg2
  simp [GEntry.cells,w2,gg0,gg1,gg2]
  ((repeat refine dr ?_); rw [hr]; refine zaa rfl ?_ rfl; simp [zao,plR,rngK,twB,zad,gg0,gg1,gg2])
 ·clear h1
  by_cases gg0 : ¬ (tn = -1)
  ·simp [GEntry.cells,gg0]
   ((repeat refine dr ?_); rw [hr]; refine zaa rfl ?_ rfl; simp [zao,plR,rngK,twB,zad,gg0])
  replace gg0 : tn = -1 := Classical.byContradiction gg0
  by_cases gg1 : ¬ (ce = -1)
  ·simp [GEntry.cells,gg0,gg1]
   ((repeat refine dr ?_); rw [hr]; refine zaa rfl ?_ rfl; simp [zao,plR,rngK,twB,zad,gg0,gg1])
  replace gg1 : ce = -1 := Classical.byContradiction gg1
  by_cases gg2 : ¬ (ot = -1)
  ·simp [GEntry.cells,gg0,gg1,gg2]
   ((repeat refine dr ?_); rw [hr]; refine zaa rfl ?_ rfl; simp [zao,plR,rngK,twB,zad,gg0,gg1,gg2])
  replace gg2 : ot = -1 := Classical.byContradiction gg2
  simp [GEntry.cells,gg0,gg1,gg2]
  ((repeat refine dr ?_); rw [hr]; refine zaa rfl ?_ rfl; simp [zao,plR,rngK,twB,zad,gg0,gg1,gg2])
 ·clear h1
  by_cases gg0 : ¬ (tn = -1)
  ·simp [GEntry.cells,gg0]
   ((repeat refine dr ?_); rw [hr]; refine zaa rfl ?_ rfl; simp [zao,plR,rngK,twB,zad,gg0])
  replace gg0 : tn = -1 := Classical.byContradiction gg0
  by_cases gg1 : ¬ (ce = -1)
  ·simp [GEntry.cells,gg0,gg1]
   ((repeat refine dr ?_); rw [hr]; refine zaa rfl ?_ rfl; simp [zao,plR,rngK,twB,zad,gg0,gg1])
  replace gg1 : ce = -1 := Classical.byContradiction gg1
  cases gg2 : inB ot 0 (g - 1)
  ·simp [GEntry.cells,w3,gg0,gg1,gg2]
   ((repeat refine dr ?_); rw [hr]; refine zaa rfl ?_ rfl; simp [zao,plR,rngK,twB,zad,gg0,gg1,gg2])
  simp [GEntry.cells,w3,gg0,gg1,gg2]
  ((repeat refine dr ?_); rw [hr]; refine zaa rfl ?_ rfl; simp [zao,plR,rngK,twB,zad,gg0,gg1,gg2])
 ·clear h1
  by_cases gg0 : ¬ (tn = -1)
  ·simp [GEntry.cells,gg0]
   ((repeat refine dr ?_); rw [hr]; refine zaa rfl ?_ rfl; simp [zao,plR,rngK,twB,zad,gg0])
  replace gg0 : tn = -1 := Classical.byContradiction gg0
  by_cases gg1 : ¬ (ce = -1)
  ·simp [GEntry.cells,gg0,gg1]
   ((repeat refine dr ?_); rw [hr]; refine zaa rfl ?_ rfl; simp [zao,plR,rngK,twB,zad,gg0,gg1])
  replace gg1 : ce = -1 := Classical.byContradiction gg1
  by_cases gg2 : ¬ (ot = -1)
  ·simp [GEntry.cells,gg0,gg1,gg2]
   ((repeat refine dr ?_); rw [hr]; refine zaa rfl ?_ rfl; simp [zao,plR,rngK,twB,zad,gg0,gg1,gg2])
  replace gg2 : ot = -1 := Classical.byContradiction gg2
  simp [GEntry.cells,gg0,gg1,gg2]
  ((repeat refine dr ?_); rw [hr]; refine zaa rfl ?_ rfl; simp [zao,plR,rngK,twB,zad,gg0,gg1,gg2])
 ·clear h1
  by_cases gg0 : ¬ (tn = -1)
  ·simp [GEntry.cells,gg0]
   ((repeat refine dr ?_); rw [hr]; refine zaa rfl ?_ rfl; simp [zao,plR,rngK,twB,zad,gg0])
  replace gg0 : tn = -1 := Classical.byContradiction gg0
  by_cases gg1 : ¬ (ce = -1)
  ·simp [GEntry.cells,gg0,gg1]
   ((repeat refine dr ?_); rw [hr]; refine zaa rfl ?_ rfl; simp [zao,plR,rngK,twB,zad,gg0,gg1])
  replace gg1 : ce = -1 := Classical.byContradiction gg1
  by_cases gg2 : ¬ (ot = -1)
  ·simp [GEntry.cells,gg0,gg1,gg2]
   ((repeat refine dr ?_); rw [hr]; refine zaa rfl ?_ rfl; simp [zao,plR,rngK,twB,zad,gg0,gg1,gg2])
  replace gg2 : ot = -1 := Classical.byContradiction gg2
  simp [GEntry.cells,gg0,gg1,gg2]
  ((repeat refine dr ?_); rw [hr]; refine zaa rfl ?_ rfl; simp [zao,plR,rngK,twB,zad,gg0,gg1,gg2])
 ·clear h1
  by_cases gg0 : ¬ (tn = -1)
  ·simp [GEntry.cells,gg0]
   ((repeat refine dr ?_); rw [hr]; refine zaa rfl ?_ rfl; simp [zao,plR,rngK,twB,zad,gg0])
  replace gg0 : tn = -1 := Classical.byContradiction gg0
  by_cases gg1 : ¬ (ce = -1)
  ·simp [GEntry.cells,gg0,gg1]
   ((repeat refine dr ?_); rw [hr]; refine zaa rfl ?_ rfl; simp [zao,plR,rngK,twB,zad,gg0,gg1])
  replace gg1 : ce = -1 := Classical.byContradiction gg1
  by_cases gg2 : ¬ (ot = -1)
  ·simp [GEntry.cells,gg0,gg1,gg2]
   ((repeat refine dr ?_); rw [hr]; refine zaa rfl ?_ rfl; simp [zao,plR,rngK,twB,zad,gg0,gg1,gg2])
  replace gg2 : ot = -1 := Classical.byContradiction gg2
  simp [GEntry.cells,gg0,gg1,gg2]
  ((repeat refine dr ?_); rw [hr]; refine zaa rfl ?_ rfl; simp [zao,plR,rngK,twB,zad,gg0,gg1,gg2])
noncomputable def zft := fam (fun i : GEntry × Int => [zaD i.1,.int .i64 i.2]) (fun _ => []) (fun i => (1 ≤ i.1.Kind ∧ i.1.Kind ≤ 16) ∧ (0 ≤ i.2 ∧ i.2 ≤ 9223372036854775807)) (fun i => ⟨.bool (zal i.1 i.2),[]⟩)
@[simp] theorem numbersSp_eq {e : GEntry} {v : Int} (h1 : 1 ≤ e.Kind ∧ e.Kind ≤ 16) (h2 : 0 ≤ v ∧ v ≤ 9223372036854775807) : zft ([zaD e,.int .i64 v]) ([]) = some (⟨.bool (zal e v),[]⟩) :=
 zai (by rintro ⟨a0,a1⟩ ⟨b0,b1⟩ h h' <;> simp at h h' <;> simp_all) (e,v) ⟨h1,h2⟩
set_option maxHeartbeats 40000000 in
theorem zlt : Lift.Spec Tryz.prog 163 zft := by
 refine zaj (C := CE6) zac zt7 follows Tryz.func163 (by kernel_rfl) rfl (by kernel_rfl) rfl ?_
 rintro ⟨e,v⟩ ⟨h1,h2⟩
 try simp only at h1 h2
 refine ⟨by simp,?_⟩
 intro r hr
 have w1 : IntKind.i64.wrap (v - 1) = v - 1 := w64
 obtain ⟨kd,tk,tn,ce,ot,ep,fr,un,n⟩ := e
 simp only at h1
 rcases kinds h1 with rfl | rfl | rfl | rfl | rfl | rfl | rfl | rfl | rfl | rfl | rfl | rfl | rfl | rfl | rfl | rfl
 ·clear h1
  by_cases gg0 : ¬ (ep = 0)
  ·simp [GEntry.cells,gg0]
   ((repeat refine dr ?_); rw [hr]; refine zaa rfl ?_ rfl; simp [zal,nuR,rngK,zad,gg0])
  replace gg0 : ep = 0 := Classical.byContradiction gg0
  by_cases gg1 : ¬ (fr = 0)
  ·simp [GEntry.cells,gg0,gg1]
   ((repeat refine dr ?_); rw [hr]; refine zaa rfl ?_ rfl; simp [zal,nuR,rngK,zad,gg0,gg1])
  replace gg1 : fr = 0 := Classical.byContradiction gg1
  by_cases gg2 : ¬ (un = 0)
  ·simp [GEntry.cells,gg0,gg1,gg2]
   ((repeat refine dr ?_); rw [hr]; refine zaa rfl ?_ rfl; simp [zal,nuR,rngK,zad,gg0,gg1,gg2])
  replace gg2 : un = 0 := Classical.byContradiction gg2
  simp [GEntry.cells,gg0,gg1,gg2]
  ((repeat refine dr ?_); rw [hr]; refine zaa rfl ?_ rfl; simp [zal,nuR,rngK,zad,gg0,gg1,gg2])
 ·clear h1
  cases gg0 : inB ep 1 1048576
  ·simp [GEntry.cells,gg0]
   ((repeat refine dr ?_); rw [hr]; refine zaa rfl ?_ rfl; simp [zal,nuR,rngK,gg0])
  cases gg1 : inB fr 0 1073741824
  ·simp [GEntry.cells,gg0,gg1]
   ((repeat refine dr ?_); rw [hr]; refine zaa rfl ?_ rfl; simp [zal,nuR,rngK,gg0,gg1])
  cases gg2 : inB un 0 1073741824
  ·simp [GEntry.cells,gg0,gg1,gg2]
   ((repeat refine dr ?_); rw [hr]; refine zaa rfl ?_ rfl; simp [zal,nuR,rngK,gg0,gg1,gg2])
  simp [GEntry.cells,w1,gg0,gg1,gg2]
  ((repeat refine dr ?_); rw [hr]; refine zaa rfl ?_ rfl; simp [zal,nuR,rngK,gg0,gg1,gg2])
 ·clear h1
  cases gg0 : inB ep 1 1048576
  ·simp [GEntry.cells,gg0]
   ((repeat refine dr ?_); rw [hr]; refine zaa rfl ?_ rfl; simp [zal,nuR,rngK,zad,gg0])
  by_cases gg1 : ¬ (fr = 0)
  ·simp [GEntry.cells,gg0,gg1]
   ((repeat refine dr ?_); rw [hr]; refine zaa rfl ?_ rfl; simp [zal,nuR,rngK,zad,gg0,gg1])
  replace gg1 : fr = 0 := Classical.byContradiction gg1
  by_cases gg2 : ¬ (un = 0)
  ·simp [GEntry.cells,gg0,gg1,gg2]
   ((repeat refine dr ?_); rw [hr]; refine zaa rfl ?_ rfl; simp [zal,nuR,rngK,zad,gg0,gg1,gg2])
  replace gg2 : un = 0 := Classical.byContradiction gg2
  simp [GEntry.cells,gg0,gg1,gg2]
  ((repeat refine dr ?_); rw [hr]; refine zaa rfl ?_ rfl; simp [zal,nuR,rngK,zad,gg0,gg1,gg2])
 ·clear h1
  by_cases gg0 : ¬ (ep = 0)
  ·simp [GEntry.cells,gg0]
   ((repeat refine dr ?_); rw [hr]; refine zaa rfl ?_ rfl; simp [zal,nuR,rngK,zad,gg0])
  replace gg0 : ep = 0 := Classical.byContradiction gg0
  by_cases gg1 : ¬ (fr = 0)
  ·simp [GEntry.cells,gg0,gg1]
   ((repeat refine dr ?_); rw [hr]; refine zaa rfl ?_ rfl; simp [zal,nuR,rngK,zad,gg0,gg1])
  replace gg1 : fr = 0 := Classical.byContradiction gg1
  by_cases gg2 : ¬ (un = 0)
  ·simp [GEntry.cells,gg0,gg1,gg2]
   ((repeat refine dr ?_); rw [hr]; refine zaa rfl ?_ rfl; simp [zal,nuR,rngK,zad,gg0,gg1,gg2])
  replace gg2 : un = 0 := Classical.byContradiction gg2
  simp [GEntry.cells,gg0,gg1,gg2]
  ((repeat refine dr ?_); rw [hr]; refine zaa rfl ?_ rfl; simp [zal,nuR,rngK,zad,gg0,gg1,gg2])
 ·clear h1
  by_cases gg0 : ¬ (ep = 0)
  ·simp [GEntry.cells,gg0]
   ((repeat refine dr ?_); rw [hr]; refine zaa rfl ?_ rfl; simp [zal,nuR,rngK,zad,gg0])
  replace gg0 : ep = 0 := Classical.byContradiction gg0
  by_cases gg1 : ¬ (fr = 0)
  ·simp [GEntry.cells,gg0,gg1]
   ((repeat refine dr ?_); rw [hr]; refine zaa rfl ?_ rfl; simp [zal,nuR,rngK,zad,gg0,gg1])
  replace gg1 : fr = 0 := Classical.byContradiction gg1
  by_cases gg2 : ¬ (un = 0)
  ·simp [GEntry.cells,gg0,gg1,gg2]
   ((repeat refine dr ?_); rw [hr]; refine zaa rfl ?_ rfl; simp [zal,nuR,rngK,zad,gg0,gg1,gg2])
  replace gg2 : un = 0 := Classical.byContradiction gg2
  simp [GEntry.cells,gg0,gg1,gg2]
  ((repeat refine dr ?_); rw [hr]; refine zaa rfl ?_ rfl; simp [zal,nuR,rngK,zad,gg0,gg1,gg2])
 ·clear h1
  by_cases gg0 : ¬ (ep = 0)
  ·simp [GEntry.cells,gg0]
   ((repeat refine dr ?_); rw [hr]; refine zaa rfl ?_ rfl; simp [zal,nuR,rngK,zad,gg0])
  replace gg0 : ep = 0 := Classical.byContradiction gg0
  by_cases gg1 : ¬ (fr = 0)
  ·simp [GEntry.cells,gg0,gg1]
   ((repeat refine dr ?_); rw [hr]; refine zaa rfl ?_ rfl; simp [zal,nuR,rngK,zad,gg0,gg1])
  replace gg1 : fr = 0 := Classical.byContradiction gg1
  by_cases gg2 : ¬ (un = 0)
  ·simp [GEntry.cells,gg0,gg1,gg2]
   ((repeat refine dr ?_); rw [hr]; refine zaa rfl ?_ rfl; simp [zal,nuR,rngK,zad,gg0,gg1,gg2])
  replace gg2 : un = 0 := Classical.byContradiction gg2
  simp [GEntry.cells,gg0,gg1,gg2]
  ((repeat refine dr ?_); rw [hr]; refine zaa rfl ?_ rfl; simp [zal,nuR,rngK,zad,gg0,gg1,gg2])
 ·clear h1
  by_cases gg0 : ¬ (ep = 0)
  ·simp [GEntry.cells,gg0]
   ((repeat refine dr ?_); rw [hr]; refine zaa rfl ?_ rfl; simp [zal,nuR,rngK,zad,gg0])
  replace gg0 : ep = 0 := Classical.byContradiction gg0
  by_cases gg1 : ¬ (fr = 0)
  ·simp [GEntry.cells,gg0,gg1]
   ((repeat refine dr ?_); rw [hr]; refine zaa rfl ?_ rfl; simp [zal,nuR,rngK,zad,gg0,gg1])
  replace gg1 : fr = 0 := Classical.byContradiction gg1
  by_cases gg2 : ¬ (un = 0)
  ·simp [GEntry.cells,gg0,gg1,gg2]
   ((repeat refine dr ?_); rw [hr]; refine zaa rfl ?_ rfl; simp [zal,nuR,rngK,zad,gg0,gg1,gg2])
  replace gg2 : un = 0 := Classical.byContradiction gg2
  simp [GEntry.cells,gg0,gg1,gg2]
  ((repeat refine dr ?_); rw [hr]; refine zaa rfl ?_ rfl; simp [zal,nuR,rngK,zad,gg0,gg1,gg2])
 ·clear h1
  by_cases gg0 : ¬ (ep = 0)
  ·simp [GEntry.cells,gg0]
   ((repeat refine dr ?_); rw [hr]; refine zaa rfl ?_ rfl; simp [zal,nuR,rngK,zad,gg0])
  replace gg0 : ep = 0 := Classical.byContradiction gg0
  by_cases gg1 : ¬ (fr = 0)
  ·simp [GEntry.cells,gg0,gg1]
   ((repeat refine dr ?_); rw [hr]; refine zaa rfl ?_ rfl; simp [zal,nuR,rngK,zad,gg0,gg1])
  replace gg1 : fr = 0 := Classical.byContradiction gg1
  by_cases gg2 : ¬ (un = 0)
  ·simp [GEntry.cells,gg0,gg1,gg2]
   ((repeat refine dr ?_); rw [hr]; refine zaa rfl ?_ rfl; simp [zal,nuR,rngK,zad,gg0,gg1,gg2])
  replace gg2 : un = 0 := Classical.byContradiction gg2
  simp [GEntry.cells,gg0,gg1,gg2]
  ((repeat refine dr ?_); rw [hr]; refine zaa rfl ?_ rfl; simp [zal,nuR,rngK,zad,gg0,gg1,gg2])
 ·clear h1
  by_cases gg0 : ¬ (ep = 0)
  ·simp [GEntry.cells,gg0]
   ((repeat refine dr ?_); rw [hr]; refine zaa rfl ?_ rfl; simp [zal,nuR,rngK,zad,gg0])
  replace gg0 : ep = 0 := Classical.byContradiction gg0
  by_cases gg1 : ¬ (fr = 0)
  ·simp [GEntry.cells,gg0,gg1]
   ((repeat refine dr ?_); rw [hr]; refine zaa rfl ?_ rfl; simp [zal,nuR,rngK,zad,gg0,gg1])
  replace gg1 : fr = 0 := Classical.byContradiction gg1
  by_cases gg2 : ¬ (un = 0)
  ·simp [GEntry.cells,gg0,gg1,gg2]
   ((repeat refine dr ?_); rw [hr]; refine zaa rfl ?_ rfl; simp [zal,nuR,rngK,zad,gg0,gg1,gg2])
  replace gg2 : un = 0 := Classical.byContradiction gg2
  simp [GEntry.cells,gg0,gg1,gg2]
  ((repeat refine dr ?_); rw [hr]; refine zaa rfl ?_ rfl; simp [zal,nuR,rngK,zad,gg0,gg1,gg2])
 ·clear h1
  by_cases gg0 : ¬ (ep = 0)
  ·simp [GEntry.cells,gg0]
   ((repeat refine dr ?_); rw [hr]; refine zaa rfl ?_ rfl; simp [zal,nuR,rngK,zad,gg0])
  replace gg0 : ep = 0 := Classical.byContradiction gg0
  by_cases gg1 : ¬ (fr = 0)
  ·simp [GEntry.cells,gg0,gg1]
   ((repeat refine dr ?_); rw [hr]; refine zaa rfl ?_ rfl; simp [zal,nuR,rngK,zad,gg0,gg1])
  replace gg1 : fr = 0 := Classical.byContradiction gg1
  by_cases gg2 : ¬ (un = 0)
  ·simp [GEntry.cells,gg0,gg1,gg2]
   ((repeat refine dr ?_); rw [hr]; refine zaa rfl ?_ rfl; simp [zal,nuR,rngK,zad,gg0,gg1,gg2])
  replace gg2 : un = 0 := Classical.byContradiction gg2
  simp [GEntry.cells,w1,gg0,gg1,gg2]
  ((repeat refine dr ?_); rw [hr]; refine zaa rfl ?_ rfl; simp [zal,nuR,rngK,zad,gg0,gg1,gg2])
 ·clear h1
  by_cases gg0 : ¬ (ep = 0)
  ·simp [GEntry.cells,gg0]
   ((repeat refine dr ?_); rw [hr]; refine zaa rfl ?_ rfl; simp [zal,nuR,rngK,zad,gg0])
  replace gg0 : ep = 0 := Classical.byContradiction gg0
  by_cases gg1 : ¬ (fr = 0)
  ·simp [GEntry.cells,gg0,gg1]
   ((repeat refine dr ?_); rw [hr]; refine zaa rfl ?_ rfl; simp [zal,nuR,rngK,zad,gg0,gg1])
  replace gg1 : fr = 0 := Classical.byContradiction gg1
  by_cases gg2 : ¬ (un = 0)
  ·simp [GEntry.cells,gg0,gg1,gg2]
   ((repeat refine dr ?_); rw [hr]; refine zaa rfl ?_ rfl; simp [zal,nuR,rngK,zad,gg0,gg1,gg2])
  replace gg2 : un = 0 := Classical.byContradiction gg2
  simp [GEntry.cells,w1,gg0,gg1,gg2]
  ((repeat refine dr ?_); rw [hr]; refine zaa rfl ?_ rfl; simp [zal,nuR,rngK,zad,gg0,gg1,gg2])
 ·clear h1
  by_cases gg0 : ¬ (ep = 0)
  ·simp [GEntry.cells,gg0]
   ((repeat refine dr ?_); rw [hr]; refine zaa rfl ?_ rfl; simp [zal,nuR,rngK,zad,gg0])
  replace gg0 : ep = 0 := Classical.byContradiction gg0
  by_cases gg1 : ¬ (fr = 0)
  ·simp [GEntry.cells,gg0,gg1]
   ((repeat refine dr ?_); rw [hr]; refine zaa rfl ?_ rfl; simp [zal,nuR,rngK,zad,gg0,gg1])
  replace gg1 : fr = 0 := Classical.byContradiction gg1
  by_cases gg2 : ¬ (un = 0)
  ·simp [GEntry.cells,gg0,gg1,gg2]
   ((repeat refine dr ?_); rw [hr]; refine zaa rfl ?_ rfl; simp [zal,nuR,rngK,zad,gg0,gg1,gg2])
  replace gg2 : un = 0 := Classical.byContradiction gg2
  simp [GEntry.cells,w1,gg0,gg1,gg2]
  ((repeat refine dr ?_); rw [hr]; refine zaa rfl ?_ rfl; simp [zal,nuR,rngK,zad,gg0,gg1,gg2])
 ·clear h1
  by_cases gg0 : ¬ (ep = 0)
  ·simp [GEntry.cells,gg0]
   ((repeat refine dr ?_); rw [hr]; refine zaa rfl ?_ rfl; simp [zal,nuR,rngK,zad,gg0])
  replace gg0 : ep = 0 := Classical.byContradiction gg0
  by_cases gg1 : ¬ (fr = 0)
  ·simp [GEntry.cells,gg0,gg1]
   ((repeat refine dr ?_); rw [hr]; refine zaa rfl ?_ rfl; simp [zal,nuR,rngK,zad,gg0,gg1])
  replace gg1 : fr = 0 := Classical.byContradiction gg1
  by_cases gg2 : ¬ (un = 0)
  ·simp [GEntry.cells,gg0,gg1,gg2]
   ((repeat refine dr ?_); rw [hr]; refine zaa rfl ?_ rfl; simp [zal,nuR,rngK,zad,gg0,gg1,gg2])
  replace gg2 : un = 0 := Classical.byContradiction gg2
  simp [GEntry.cells,gg0,gg1,gg2]
  ((repeat refine dr ?_); rw [hr]; refine zaa rfl ?_ rfl; simp [zal,nuR,rngK,zad,gg0,gg1,gg2])
 ·clear h1
  by_cases gg0 : ¬ (ep = 0)
  ·simp [GEntry.cells,gg0]
   ((repeat refine dr ?_); rw [hr]; refine zaa rfl ?_ rfl; simp [zal,nuR,rngK,zad,gg0])
  replace gg0 : ep = 0 := Classical.byContradiction gg0
  by_cases gg1 : ¬ (fr = 0)
  ·simp [GEntry.cells,gg0,gg1]
   ((repeat refine dr ?_); rw [hr]; refine zaa rfl ?_ rfl; simp [zal,nuR,rngK,zad,gg0,gg1])
  replace gg1 : fr = 0 := Classical.byContradiction gg1
  by_cases gg2 : ¬ (un = 0)
  ·simp [GEntry.cells,gg0,gg1,gg2]
   ((repeat refine dr ?_); rw [hr]; refine zaa rfl ?_ rfl; simp [zal,nuR,rngK,zad,gg0,gg1,gg2])
  replace gg2 : un = 0 := Classical.byContradiction gg2
  simp [GEntry.cells,gg0,gg1,gg2]
  ((repeat refine dr ?_); rw [hr]; refine zaa rfl ?_ rfl; simp [zal,nuR,rngK,zad,gg0,gg1,gg2])
 ·clear h1
  by_cases gg0 : ¬ (ep = 0)
  ·simp [GEntry.cells,gg0]
   ((repeat refine dr ?_); rw [hr]; refine zaa rfl ?_ rfl; simp [zal,nuR,rngK,zad,gg0])
  replace gg0 : ep = 0 := Classical.byContradiction gg0
  by_cases gg1 : ¬ (fr = 0)
  ·simp [GEntry.cells,gg0,gg1]
   ((repeat refine dr ?_); rw [hr]; refine zaa rfl ?_ rfl; simp [zal,nuR,rngK,zad,gg0,gg1])
  replace gg1 : fr = 0 := Classical.byContradiction gg1
  by_cases gg2 : ¬ (un = 0)
  ·simp [GEntry.cells,gg0,gg1,gg2]
   ((repeat refine dr ?_); rw [hr]; refine zaa rfl ?_ rfl; simp [zal,nuR,rngK,zad,gg0,gg1,gg2])
  replace gg2 : un = 0 := Classical.byContradiction gg2
  simp [GEntry.cells,gg0,gg1,gg2]
  ((repeat refine dr ?_); rw [hr]; refine zaa rfl ?_ rfl; simp [zal,nuR,rngK,zad,gg0,gg1,gg2])
 ·clear h1
  by_cases gg0 : ¬ (ep = 0)
  ·simp [GEntry.cells,gg0]
   ((repeat refine dr ?_); rw [hr]; refine zaa rfl ?_ rfl; simp [zal,nuR,rngK,zad,gg0])
  replace gg0 : ep = 0 := Classical.byContradiction gg0
  by_cases gg1 : ¬ (fr = 0)
  ·simp [GEntry.cells,gg0,gg1]
   ((repeat refine dr ?_); rw [hr]; refine zaa rfl ?_ rfl; simp [zal,nuR,rngK,zad,gg0,gg1])
  replace gg1 : fr = 0 := Classical.byContradiction gg1
  by_cases gg2 : ¬ (un = 0)
  ·simp [GEntry.cells,gg0,gg1,gg2]
   ((repeat refine dr ?_); rw [hr]; refine zaa rfl ?_ rfl; simp [zal,nuR,rngK,zad,gg0,gg1,gg2])
  replace gg2 : un = 0 := Classical.byContradiction gg2
  simp [GEntry.cells,gg0,gg1,gg2]
  ((repeat refine dr ?_); rw [hr]; refine zaa rfl ?_ rfl; simp [zal,nuR,rngK,zad,gg0,gg1,gg2])
end Go.Proofs.YtcpdgbncekdicaaGreat

namespace Go.Proofs.YtcpdgbncekdicaaGreat
open Go.Lift
noncomputable def CE7 := mkC [(161,inSp),(162,zgV),(163,zft)]
theorem zvL : zan Tryz.prog CE7 := zay (zab zn4 (zab zlK (zab zlt zar)))
@[simp] theorem CE7_1 : CE7 161 = inSp := rfl
@[simp] theorem CE7_2 : CE7 162 = zgV := rfl
@[simp] theorem CE7_3 : CE7 163 = zft := rfl
theorem zoQ (t c r v : Int) (e : GEntry) (h : inB e.Kind 1 16 = true) : fitE t c r v e = (inB e.Tick 0 1073741824 && (zao e t c r && zal e v)) := by
 have hk := kinds (zrc.1 h)
 obtain ⟨kd,tk,tn,ce,ot,ep,fr,un,n⟩ := e
 simp only at hk h
 simp only [fitE,zao,zal,h,inR,plR,nuR,Bool.true_and]
 rcases hk with rfl | rfl | rfl | rfl | rfl | rfl | rfl | rfl | rfl | rfl | rfl | rfl | rfl | rfl | rfl | rfl
 all_goals
  simp only [rngK,twB]
  simp
  generalize inB tk _ _ = b1
  cases b1 <;> simp
 all_goals
  rw [Bool.eq_iff_iff]
  simp
  grind
noncomputable def zgL := fam (fun i : GEntry × Int × Int × Int × Int => [zaD i.1,.int .i64 i.2.1,.int .i64 i.2.2.1,.int .i64 i.2.2.2.1,.int .i64 i.2.2.2.2]) (fun _ => []) (fun i => (0 ≤ i.2.1 ∧ i.2.1 ≤ 9223372036854775807) ∧ (0 ≤ i.2.2.1 ∧ i.2.2.1 ≤ 9223372036854775807) ∧ (0 ≤ i.2.2.2.1 ∧ i.2.2.2.1 ≤ 9223372036854775807) ∧ (0 ≤ i.2.2.2.2 ∧ i.2.2.2.2 ≤ 9223372036854775807)) (fun i => ⟨.bool (fitE i.2.1 i.2.2.1 i.2.2.2.1 i.2.2.2.2 i.1),[]⟩)
@[simp] theorem right6Sp_eq {e : GEntry} {t c g v : Int} (h1 : 0 ≤ t ∧ t ≤ 9223372036854775807) (h2 : 0 ≤ c ∧ c ≤ 9223372036854775807) (h3 : 0 ≤ g ∧ g ≤ 9223372036854775807) (h4 : 0 ≤ v ∧ v ≤ 9223372036854775807) : zgL ([zaD e,.int .i64 t,.int .i64 c,.int .i64 g,.int .i64 v]) ([]) = some (⟨.bool (fitE t c g v e),[]⟩) :=
 zai (by rintro ⟨a0,a1,a2,a3,a4⟩ ⟨b0,b1,b2,b3,b4⟩ h h' <;> simp at h h' <;> simp_all) (e,t,c,g,v) ⟨h1,h2,h3,h4⟩
set_option maxHeartbeats 40000000 in
theorem zm7 : Lift.Spec Tryz.prog 141 zgL := by
 refine zaj (C := CE7) zac zvL follows Tryz.func141 (by kernel_rfl) rfl (by kernel_rfl) rfl ?_
 rintro ⟨e,t,c,g,v⟩ ⟨h1,h2,h3,h4⟩
 try simp only at h1 h2 h3 h4
 refine ⟨by simp,?_⟩
 intro r hr
 cases k0 : inB e.Kind 1 16
 ·simp [GEntry.cells,k0]
  ((repeat refine dr ?_); rw [hr]; refine zaa rfl ?_ rfl; simp [fitE,k0])
 have hk := zrc.1 k0
 have hp := zoQ t c g v e k0
 rw [hp] at hr
 cases gg0 : inB e.Tick 0 1073741824
 ·simp [GEntry.cells,k0,gg0]
  ((repeat refine dr ?_); rw [hr]; refine zaa rfl ?_ rfl; simp [gg0])
 cases gg1 : zao e t c g
 ·simp [GEntry.cells,k0,hk,h1,h2,h3,gg0,gg1]
  ((repeat refine dr ?_); rw [hr]; refine zaa rfl ?_ rfl; simp [gg0,gg1])
 simp [GEntry.cells,k0,hk,h1,h2,h3,h4,gg0,gg1]
 ((repeat refine dr ?_); rw [hr]; refine zaa rfl ?_ rfl; simp [gg0,gg1])
noncomputable def CE8 := mkC [(141,zgL)]
theorem zvQ : zan Tryz.prog CE8 := zay (zab zm7 zar)
@[simp] theorem CE8_1 : CE8 141 = zgL := rfl
theorem zjr : Lift.Spec Tryz.prog 120 zcY := by
 refine zaj (C := CE8) zac zvQ follows Tryz.func120 (by kernel_rfl) rfl (by kernel_rfl) rfl ?_
 rintro e _
 refine ⟨by simp,?_⟩
 intro r hr
 simp [GEntry.cells]
 ((repeat refine dr ?_); rw [hr]; refine zaa rfl ?_ rfl; simp [zbj])
end Go.Proofs.YtcpdgbncekdicaaGreat

namespace Go.Proofs.YtcpdgbncekdicaaGreat
open Go.Lift
end Go.Proofs.YtcpdgbncekdicaaGreat

namespace Go.Proofs.YtcpdgbncekdicaaGreat
open Go.Lift
def entL (e : GEntry) : List Int := [e.Kind,e.Tick,e.Tenant,e.Cell,e.Other,e.Epoch,e.From,e.Until,e.N]
def entO (e : GEntry) : AObj := ⟨53,9,[GEntry.cells e],true,2,.rw⟩
noncomputable def zep := fam (fun _ : GEntry => [V.ptr 0 0 0]) (fun i => [entO i]) (fun _ => True) (fun i => ⟨.agg [.ptr 0 0 0,.ptr 0 0 1,.ptr 0 0 2,.ptr 0 0 3,.ptr 0 0 4,.ptr 0 0 5,.ptr 0 0 6,.ptr 0 0 7,.ptr 0 0 8],[entO i]⟩)
@[simp] theorem zhE {e : GEntry}  : zep ([V.ptr 0 0 0]) ([entO e]) = some (⟨.agg [.ptr 0 0 0,.ptr 0 0 1,.ptr 0 0 2,.ptr 0 0 3,.ptr 0 0 4,.ptr 0 0 5,.ptr 0 0 6,.ptr 0 0 7,.ptr 0 0 8],[entO e]⟩) :=
 zai (A := fun _ : GEntry => [V.ptr 0 0 0]) (O := fun i : GEntry => [entO i]) (res := fun i : GEntry => ⟨.agg [.ptr 0 0 0,.ptr 0 0 1,.ptr 0 0 2,.ptr 0 0 3,.ptr 0 0 4,.ptr 0 0 5,.ptr 0 0 6,.ptr 0 0 7,.ptr 0 0 8],[entO i]⟩) (fun i j _ h => by simp [entO] at h; rw [GEntry.cells_inj h]) e trivial
theorem zhY : Lift.Spec Tryz.prog 198 zep := by
 refine zaj (C := C0) zac C0_ok follows Tryz.func198 (by kernel_rfl) rfl (by kernel_rfl) rfl ?_
 rintro e _
 refine ⟨by simp,?_⟩
 intro r hr
 simp [entO,GEntry.cells]
 (repeat refine dr ?_)
 rw [hr]
 refine zb5 [.inl 0] rfl ?_ ?_ (by simp) ?_ ?_ ?_ ?_ <;> simp [entO,GEntry.cells]
def encTo (ns : List Int) : List UInt8 := ns.flatMap fun n => enc (code n)
theorem zpA (ns : List Int) (n : Int) : encTo (ns ++ [n]) = encTo ns ++ enc (code n) := by simp [encTo]
theorem zhV : ∀ {ns : List Int},(∀ n ∈ ns,In64 n) → (encTo ns).length ≤ 10 * ns.length
 | [],_ => by simp [encTo]
 | n :: ns,h => by
  have h1 := zeR _ (zdk (h n (List.mem_cons_self ..)))
  have h2 := zhV (ns := ns) (fun x hx => h x (List.mem_cons_of_mem _ hx))
  have : encTo (n :: ns) = enc (code n) ++ encTo ns := by simp [encTo]
  rw [this,List.length_append,List.length_cons]; omega
def zca (e : GEntry) : List UInt8 := encTo (entL e)
theorem zjW {e : GEntry} (h : GEntry.ok e) : ∀ n ∈ entL e,In64 n := by
 obtain ⟨h1,h2,h3,h4,h5,h6,h7,h8,h9⟩ := h
 simp only [entL,List.mem_cons,List.not_mem_nil,or_false]
 rintro n (rfl | rfl | rfl | rfl | rfl | rfl | rfl | rfl | rfl) <;> assumption
theorem zfM {e : GEntry} (h : GEntry.ok e) : (zca e).length ≤ 90 := by
 have := zhV (zjW h)
 exact this
noncomputable def CE9 := mkC [(198,zep),(177,intSp),(109,intSp)]
theorem zv9 : zan Tryz.prog CE9 := zay (zab zhY (zab zgT (zab zeV zar)))
@[simp] theorem CE9_1 : CE9 198 = zep := rfl
@[simp] theorem CE9_2 : CE9 177 = intSp := rfl
@[simp] theorem CE9_3 : CE9 109 = intSp := rfl
noncomputable def zgZ := fam (fun i : GEntry => [zaD i]) (fun _ => []) (fun i => (GEntry.ok i)) (fun i => ⟨.sl 2 1 (zaf (zca i)),[]⟩)
@[simp] theorem bytesESp_eq {e : GEntry} (h1 : GEntry.ok e) : zgZ ([zaD e]) ([]) = some (⟨.sl 2 1 (zaf (zca e)),[]⟩) :=
 zai (by intro a b h h' <;> simp at h h' <;> simp_all) e h1
def beSt (e : GEntry) (i : Nat × List UInt8) : St :=
 mkSt [(3,.own 1 0 i.2.length),(6,.agg [.ptr 0 0 0,.ptr 0 0 1,.ptr 0 0 2,.ptr 0 0 3,.ptr 0 0 4,.ptr 0 0 5,.ptr 0 0 6,.ptr 0 0 7,.ptr 0 0 8]),(7,.int .i64 i.1)] [(0,entO e),(1,rowOf i.2)] 2
theorem nine {i : Nat} (h : i < 9) : i = 0 ∨ i = 1 ∨ i = 2 ∨ i = 3 ∨ i = 4 ∨ i = 5 ∨ i = 6 ∨ i = 7 ∨ i = 8 := by omega
theorem zpz {ns : List Int} {i : Nat} {x : Int} (hx : ns[i]? = some x) : encTo (ns.take (i + 1)) = encTo (ns.take i) ++ enc (code x) := by
 rw [List.take_add_one,hx]; exact zpA _ _
theorem zsK {e : GEntry} (h : GEntry.ok e) (i : Nat) : (encTo ((entL e).take i)).length ≤ 90 := by
 have h1 := zhV (ns := (entL e).take i) (fun n hn => zjW h n (List.mem_of_mem_take hn))
 have h2 : ((entL e).take i).length ≤ 9 := by rw [List.length_take]; simp [entL]; omega
 omega
set_option maxHeartbeats 40000000 in
theorem zmy : Lift.Spec Tryz.prog 179 zgZ := by
 refine zaj (C := CE9) zac zv9 follows Tryz.func179 (by kernel_rfl) rfl (by kernel_rfl) rfl ?_
 rintro e h
 try simp only at h
 refine ⟨by simp,?_⟩
 intro r hr
 have hN := zhE (e := e)
 simp only [entO,GEntry.cells] at hN
 simp [GEntry.cells,hN]
 refine zaz (beSt e) (fun i => i.1 ≤ 9 ∧ i.2 = encTo ((entL e).take i.1)) (fun i => 9 - i.1) (0,[]) ?_ ⟨Nat.zero_le _,rfl⟩ ?_
 ·refine zl2 3 99 (sz := 1) (rowOf []) (fun n => if n = 1 then 99 else n) ?_ ?_ ?_ ?_ ?_ ?_ <;> simp [entO,GEntry.cells,rowOf]
 ·rintro ⟨i,acc⟩ ⟨hi,ha⟩
  simp only at hi ha
  by_cases hik : i < 9
  ·have hacc : acc.length ≤ 90 := by rw [ha]; exact zsK h i
   have q5 : (acc.length : Int) ≤ 140737488351222 := by omega
   obtain ⟨x,hx⟩ : ∃ x,(entL e)[i]? = some x := ⟨_,List.getElem?_eq_getElem (show i < (entL e).length from hik)⟩
   have hxi : In64 x := zjW h x (List.mem_of_getElem? hx)
   have hstep := zpz hx
   rw [← ha] at hstep
   clear ha
   have h9 := nine hik
   rcases h9 with rfl | rfl | rfl | rfl | rfl | rfl | rfl | rfl | rfl
   all_goals
    simp [entL] at hx
    subst hx
    simp [beSt,entO,GEntry.cells,hxi,q5,rowOf]
    refine Again.mk (_,_) ⟨Nat.le_of_ble_eq_true rfl,hstep.symm⟩ (by simp) ?_
    refine zaF [.inl 0,.inr 3] ?_ ?_ ?_ ?_ <;> simp [entO,GEntry.cells,rowOf]
  ·have e9 : i = 9 := by omega
   subst e9
   simp [beSt,rowOf]
   rw [hr]
   refine zvb [2] ?_ rfl (by simp) ?_
   ·simp
   ·rw [show (entL e).take 9 = entL e from rfl] at ha
    simp [ha,zca]
def entOf (vs : List Int) : GEntry := ⟨vs.getD 0 0,vs.getD 1 0,vs.getD 2 0,vs.getD 3 0,vs.getD 4 0,vs.getD 5 0,vs.getD 6 0,vs.getD 7 0,vs.getD 8 0⟩
noncomputable def rdN : Nat → List UInt8 → List Int → Nat → List Int × Nat × Int
 | 0,_,vs,u => (vs,u,0)
 | m + 1,l,vs,u => if (takeT (l.drop u)).2.2 = 0 then rdN m l (vs ++ [(takeT (l.drop u)).1]) (u + (takeT (l.drop u)).2.1.toNat) else ([],0,(takeT (l.drop u)).2.2)
noncomputable def rdT (l : List UInt8) : List Int × Nat × Int := hush (rdN 9 l [] 0)
theorem zrm (l : List UInt8) : rdT l = rdN 9 l [] 0 := zdo _
def zeroE : GEntry := ⟨0,0,0,0,0,0,0,0,0⟩
noncomputable def zje (l : List UInt8) : GEntry × Int × Int :=
 if (rdT l).2.2 = 0 then (if zbj (entOf (rdT l).1) = true then (entOf (rdT l).1,((rdT l).2.1 : Int),0) else (zeroE,0,18)) else (zeroE,0,(rdT l).2.2)
noncomputable def readE (l : List UInt8) : GEntry × Int × Int := hush (zje l)
theorem zgS (l : List UInt8) : readE l = zje l := zdo _
noncomputable def readV (l : List UInt8) : V := .tup [zaD (readE l).1,.int .i64 (readE l).2.1,.int .i64 (readE l).2.2]
theorem ze6 {l : List UInt8} {e : GEntry} {u x : Int} (h : readE l = (e,u,x)) : readV l = .tup [.agg (GEntry.cells e),.int .i64 u,.int .i64 x] := by rw [readV,h]; rfl
noncomputable def znS := fam (fun i : Nat × List UInt8 => [V.sl i.1 1 (zaf i.2)]) (fun _ => []) (fun i => (i.2.length : Int) ≤ 140737488355328) (fun i => ⟨readV i.2,[]⟩)
@[simp] theorem readSp_eq {t : Nat} {l : List UInt8} (h : (l.length : Int) ≤ 140737488355328) : znS [V.sl t 1 (zaf l)] [] = some ⟨readV l,[]⟩ :=
 zai (A := fun i : Nat × List UInt8 => [V.sl i.1 1 (zaf i.2)]) (fun i j h _ => by simp at h; rw [h.2]) (t,l) h
noncomputable def CEA := mkC [(198,zep),(104,zcY),(120,zcY),(183,zcX),(136,zcX)]
theorem zvW : zan Tryz.prog CEA := zay (zab zhY (zab zf2 (zab zjr (zab zhr (zab zdX zar)))))
@[simp] theorem CEA_1 : CEA 198 = zep := rfl
@[simp] theorem CEA_2 : CEA 104 = zcY := rfl
@[simp] theorem CEA_3 : CEA 120 = zcY := rfl
@[simp] theorem CEA_4 : CEA 183 = zcX := rfl
@[simp] theorem CEA_5 : CEA 136 = zcX := rfl
structure RdOk (l : List UInt8) (i : Nat) (vs : List Int) (u : Nat) : Prop where
 le : i ≤ 9
 len : vs.length = i
 ul : u ≤ l.length
 tot : rdN (9 - i) l vs u = rdT l
theorem RdOk.init (l : List UInt8) : RdOk l 0 [] 0 := ⟨Nat.zero_le _,rfl,Nat.zero_le _,(zrm l).symm⟩
theorem RdOk.bad {l : List UInt8} {i : Nat} {vs : List Int} {u : Nat} (h : RdOk l i vs u) (hi : i < 9) {n k e : Int} (ht : takeT (l.drop u) = (n,k,e)) (he : ¬ e = 0) : readE l = (zeroE,0,e) := by
 have := h.tot
 obtain ⟨m,hm⟩ : ∃ m,9 - i = m + 1 := ⟨8 - i,by omega⟩
 rw [hm,rdN,ht] at this
 simp only at this
 rw [if_neg he] at this
 rw [zgS,zje,← this]
 simp [he]
theorem RdOk.good {l : List UInt8} {i : Nat} {vs : List Int} {u : Nat} (h : RdOk l i vs u) (hi : i < 9) {n k : Int} (ht : takeT (l.drop u) = (n,k,0)) : RdOk l (i + 1) (vs ++ [n]) (u + k.toNat) ∧ 0 ≤ k := by
 obtain ⟨_,rest,h1,h2⟩ := zev ht
 have h3 := h.tot
 obtain ⟨m,hm⟩ : ∃ m,9 - i = m + 1 := ⟨8 - i,by omega⟩
 rw [hm,rdN,ht] at h3
 simp only [if_true] at h3
 have hl := congrArg List.length h1
 rw [List.length_drop,List.length_append] at hl
 have := h.ul
 refine ⟨⟨hi,by simp [h.len],by omega,?_⟩,by omega⟩
 rw [show 9 - (i + 1) = m by omega]; exact h3
theorem RdOk.fin {l : List UInt8} {vs : List Int} {u : Nat} (h : RdOk l 9 vs u) : readE l = if zbj (entOf vs) = true then (entOf vs,(u : Int),0) else (zeroE,0,18) := by
 have := h.tot
 rw [show 9 - 9 = 0 from rfl,rdN] at this
 rw [zgS,zje,← this]
 rfl
def rdSt (t : Nat) (l : List UInt8) (i : Nat × List Int × Nat) : St :=
 mkSt [(0,.sl t 1 (zaf l)),(2,.ptr 1 0 0),(5,.ptr 0 0 0),(6,.int .i64 i.2.2),(12,.agg [.ptr 0 0 0,.ptr 0 0 1,.ptr 0 0 2,.ptr 0 0 3,.ptr 0 0 4,.ptr 0 0 5,.ptr 0 0 6,.ptr 0 0 7,.ptr 0 0 8]),(13,.int .i64 i.1)] [(0,entO (entOf i.2.1)),(1,entO zeroE)] 2
set_option maxHeartbeats 40000000 in
theorem zro : Lift.Spec Tryz.prog 202 znS := by
 refine zaj (C := CEA) zac zvW follows Tryz.func202 (by kernel_rfl) rfl (by kernel_rfl) rfl ?_
 rintro ⟨t,l⟩ hl
 try simp only at hl
 refine ⟨by simp,?_⟩
 intro r hr
 have hN := zhE (e := zeroE)
 simp only [entO,GEntry.cells,zeroE] at hN
 simp [hN]
 refine zaz (rdSt t l) (fun i => RdOk l i.1 i.2.1 i.2.2) (fun i => 9 - i.1) (0,[],0) ?_ (RdOk.init l) ?_
 ·refine zaF [.inr 5,.inr 2] ?_ ?_ ?_ ?_ <;> simp [entO,GEntry.cells,entOf,zeroE]
 ·rintro ⟨i,vs,u⟩ hI
  simp only at hI
  by_cases hik : i < 9
  ·have hu := hI.ul
   have hvl := hI.len
   have hu' : (u : Int) ≤ (l.length : Int) := by omega
   have htd : (l.drop u).take (l.length - u) = l.drop u := List.take_of_length_le (by simp)
   rcases hT : takeT (l.drop u) with ⟨n,k,e⟩
   have h9 := nine hik
   by_cases he : e = 0
   ·subst he
    obtain ⟨hG,hk⟩ := hI.good hik hT
    have hGu := hG.ul
    have wk : IntKind.i64.wrap ((u : Int) + k) = (u : Int) + k := w64
    have hkk : ((u + k.toNat : Nat) : Int) = (u : Int) + k := by omega
    clear hI
    rcases h9 with rfl | rfl | rfl | rfl | rfl | rfl | rfl | rfl | rfl
    all_goals
     simp [rdSt,entO,GEntry.cells,entOf,zeroE,takeV,htd,hT,hu',wk]
     refine Again.mk (_,_,_) hG (by simp) ?_
     refine zaF [.inl 0,.inl 1] ?_ ?_ ?_ ?_ <;> simp [entO,GEntry.cells,entOf,zeroE,hkk,hvl]
   ·have hB := hI.bad hik hT he
    clear hI
    rcases h9 with rfl | rfl | rfl | rfl | rfl | rfl | rfl | rfl | rfl
    all_goals
     simp [rdSt,entO,GEntry.cells,entOf,zeroE,takeV,htd,hT,hu',he]
     rw [hr]; refine zaa rfl ?_ rfl
     show _ = some (readV l)
     rw [ze6 hB]
     simp [zeroE,GEntry.cells]
  ·have e9 : i = 9 := by have := hI.le; omega
   subst e9
   have hF := hI.fin
   cases hs : zbj (entOf vs)
   ·simp [rdSt,entO,GEntry.cells,zeroE,hs]
    rw [hr]; refine zaa rfl ?_ rfl
    show _ = some (readV l)
    rw [ze6 (by rw [hF,hs]; first | done | rfl)]
    simp [zeroE,GEntry.cells]
   ·simp [rdSt,entO,GEntry.cells,zeroE,hs]
    rw [hr]; refine zaa rfl ?_ rfl
    show _ = some (readV l)
    rw [ze6 (by rw [hF,hs]; first | done | rfl)]
    simp [GEntry.cells]
end Go.Proofs.YtcpdgbncekdicaaGreat

namespace Go.Proofs.YtcpdgbncekdicaaGreat
open Go.Lift
theorem zrZ : ∀ (ns : List Int) (vs : List Int) (p more : List UInt8),(∀ n ∈ ns,In64 n) → rdN ns.length (p ++ (encTo ns ++ more)) vs p.length = (vs ++ ns,p.length + (encTo ns).length,0)
 | [],vs,p,more,_ => by simp [rdN,encTo]
 | x :: ns,vs,p,more,h => by
  have e1 : encTo (x :: ns) = enc (code x) ++ encTo ns := by simp [encTo]
  have hx := zcB (h x (List.mem_cons_self ..)) (encTo ns ++ more)
  have hd : (p ++ (encTo (x :: ns) ++ more)).drop p.length = enc (code x) ++ (encTo ns ++ more) := by rw [e1]; simp
  have hp : p ++ (encTo (x :: ns) ++ more) = (p ++ enc (code x)) ++ (encTo ns ++ more) := by rw [e1]; simp
  have ih := zrZ ns (vs ++ [x]) (p ++ enc (code x)) more (fun n hn => h n (List.mem_cons_of_mem _ hn))
  show rdN (ns.length + 1) _ vs _ = _
  rw [rdN,hd,hx]
  simp only [if_true,Int.toNat_natCast]
  rw [hp]
  rw [List.length_append] at ih
  rw [ih,e1]
  simp [Nat.add_assoc]
theorem znt : ∀ (m : Nat) (l : List UInt8) (vs : List Int) (u : Nat) (vs' : List Int) (u' : Nat),u ≤ l.length → rdN m l vs u = (vs',u',0) → ∃ ns : List Int,ns.length = m ∧ (∀ n ∈ ns,In64 n) ∧ vs' = vs ++ ns ∧ u' = u + (encTo ns).length ∧ u' ≤ l.length ∧ ∃ rest,l.drop u = encTo ns ++ rest
 | 0,l,vs,u,vs',u',hu,h => by
  simp only [rdN,Prod.mk.injEq,and_true] at h
  exact ⟨[],rfl,by simp,by simp [h.1],by simp [encTo,h.2],by omega,l.drop u,by simp [encTo]⟩
 | m + 1,l,vs,u,vs',u',hu,h => by
  rw [rdN] at h
  rcases hT : takeT (l.drop u) with ⟨n,k,e⟩
  rw [hT] at h
  simp only at h
  by_cases he : e = 0
  ·subst he
   obtain ⟨hn,rest,h1,h2⟩ := zev hT
   simp only [if_true] at h
   have hl := congrArg List.length h1
   rw [List.length_drop,List.length_append] at hl
   have hk : k.toNat = (enc (code n)).length := by omega
   rw [hk] at h
   obtain ⟨ns,g1,g2,g3,g4,g5,rest',g6⟩ := znt m l (vs ++ [n]) (u + (enc (code n)).length) vs' u' (by omega) h
   have e1 : encTo (n :: ns) = enc (code n) ++ encTo ns := by simp [encTo]
   refine ⟨n :: ns,by simp [g1],fun x hx => ?_,by simp [g3],by rw [e1,List.length_append]; omega,g5,rest',?_⟩
   ·rcases List.mem_cons.1 hx with rfl | hx
    ·exact hn
    ·exact g2 x hx
   ·rw [e1,h1]
    have : l.drop (u + (enc (code n)).length) = rest := by rw [← List.drop_drop,h1]; simp
    rw [this] at g6
    rw [g6,List.append_assoc]
  ·rw [if_neg he] at h
   simp only [Prod.mk.injEq] at h
   exact absurd h.2.2 he
theorem zqP {ns : List Int} (h : ns.length = 9) : entL (entOf ns) = ns := by
 match ns,h with
 | [a,b,c,d,e,f,g,i,j],_ => rfl
theorem zpO (e : GEntry) : entOf (entL e) = e := rfl
theorem zmj {e : GEntry} (h : GEntry.ok e) (more : List UInt8) : readE (zca e ++ more) = if zbj e = true then (e,((zca e).length : Int),0) else (zeroE,0,18) := by
 have hr := zrZ (entL e) [] [] more (zjW h)
 simp only [List.nil_append,List.length_nil,Nat.zero_add] at hr
 have hT : rdT (zca e ++ more) = (entL e,(zca e).length,0) := by rw [zrm]; exact hr
 rw [zgS,zje,hT]
 simp only [if_true,zpO]
 rfl
theorem zfW {l : List UInt8} {y : GEntry} {m : Int} (h : readE l = (y,m,0)) : GEntry.ok y ∧ 1 ≤ m ∧ m ≤ l.length ∧ zca y = l.take m.toNat := by
 rw [zgS,zje] at h
 rcases hT : rdT l with ⟨vs,u,e⟩
 rw [hT] at h
 simp only at h
 by_cases he : e = 0
 ·subst he
  rw [if_pos rfl] at h
  rw [zrm] at hT
  obtain ⟨ns,g1,g2,g3,g4,g5,rest,g6⟩ := znt 9 l [] 0 vs u (Nat.zero_le _) hT
  simp only [List.nil_append,List.drop_zero,Nat.zero_add] at g3 g4 g6
  subst g3
  by_cases hs : zbj (entOf vs) = true
  ·rw [if_pos hs] at h
   simp only [Prod.mk.injEq,and_true] at h
   obtain ⟨rfl,rfl⟩ := h
   have hb : zca (entOf vs) = encTo vs := by unfold zca; rw [zqP g1]
   have hpos : 1 ≤ (encTo vs).length := by
    match vs,g1 with
    | x :: vs,_ =>
     have := zhg (code x)
     rw [show encTo (x :: vs) = enc (code x) ++ encTo vs by simp [encTo],List.length_append]; omega
   refine ⟨?_,by omega,by omega,?_⟩
   ·have q := zqP g1
    rw [← q] at g2
    simp only [entL,List.mem_cons,List.not_mem_nil,or_false,forall_eq_or_imp,forall_eq] at g2
    exact g2
   ·rw [hb,Int.toNat_natCast,g4,g6]; simp
  ·rw [if_neg hs] at h
   simp at h
 ·rw [if_neg he] at h
  simp only [Prod.mk.injEq] at h
  exact absurd h.2.2 he
@[simp] theorem vEntry_scalar (e : GEntry) : (zaD e).scalar = true := rfl
end Go.Proofs.YtcpdgbncekdicaaGreat

namespace Go.Lift
end Go.Lift

namespace Go.Lift
def SemWp (P : Program) (N k : Nat) (c : Code) (Q : Exit → St → Prop) (st : St) : Prop :=
 ∀ w0 ex a w I γ,(∀ n,k ≤ n → ex.fix n = none) → Sim w0 ex N st a w I γ → ∀ Q' : Exit → Act → World → Prop,(∀ e st' a' w' I' γ',Q e st' → Sim w0 ex N st' a' w' I' γ' → Q' e a' w') → c.wp P Q' a w
section
variable {P : Program} {T : TypeId → Option TI} {C : FuncId → List V → List AObj → Option CRes} {N k : Nat}
theorem SemWp.weak {c : Code} {Q : Exit → St → Prop} {st st' : St} (hw : Weak k st st') (h : SemWp P N k c Q st') : SemWp P N k c Q st := fun w0 ex a w I γ hk hs Q' hQ => by
 obtain ⟨I',γ',hs'⟩ := hw w0 ex N a w I γ hk hs
 exact h w0 ex a w I' γ' hk hs' Q' hQ
theorem SemWp.mono {c : Code} {Q Q1 : Exit → St → Prop} {st : St} (h : SemWp P N k c Q st) (hQ : ∀ e st',Q e st' → Q1 e st') : SemWp P N k c Q1 st := fun w0 ex a w I γ hk hs Q' hQ' =>
 h w0 ex a w I γ hk hs Q' fun e st' a' w' I' γ' hq hs' => hQ' e st' a' w' I' γ' (hQ e st' hq) hs'
theorem SemWp.of_axwp (hT : zaB P T) (hC : zan P C) (hm : P.follows .mixedOrders = true) {c : Code} (hd : dstOk N c = true) {Q : Exit → St → Prop} {st : St} (h : axwp T C k c Q st) : SemWp P N k c Q st := fun _ _ _ _ _ _ hk hs _ hQ =>
 ziU hT hC hm hk c hd hs h hQ
theorem SemWp.loop {c : Code} {Q : Exit → St → Prop} {st : St} {ι : Type} (S : ι → St) (ok : ι → Prop) (μ : ι → Nat) (i0 : ι) (h0 : Weak k st (S i0)) (hok : ok i0)
 (round : ∀ i,ok i → SemWp P N k c (fun e st' => match e with | .normal => Again k S ok μ i st' | e => Q e st') (S i)) : SemWp P N k (.loop c) Q st := by
 intro w0 ex a w I γ hk hs Q' hQ
 obtain ⟨I0,γ0,hs0⟩ := h0 _ _ _ _ _ _ _ hk hs
 refine znn (fun n a w => ∃ i I γ,ok i ∧ μ i = n ∧ Sim w0 ex N (S i) a w I γ) (fun n a w ⟨i,I,γ,h1,h2,hs⟩ => ?_) (n := μ i0) ⟨i0,I0,γ0,hok,rfl,hs0⟩
 refine round i h1 w0 ex a w I γ hk hs _ fun e st' a' w' I' γ' hq hs' => ?_
 cases e with
 | normal =>
  obtain ⟨j,q1,q2,q3⟩ := hq
  obtain ⟨I2,γ2,hs2⟩ := q3 _ _ _ _ _ _ _ hk hs'
  exact ⟨μ j,by omega,j,I2,γ2,q1,rfl,hs2⟩
 | _ => exact hQ _ _ _ _ _ _ hq hs'
def restC (f : Func) (p : List Nat) : Code := subC p (bodyC f)
theorem zkM (hT : zaB P T) {f : FuncId} {fn : Func} (hf : P.funcs[f]? = some fn) (hb : fn.body = some (bodyC fn)) {args : List V} {objs : List AObj} {r : CRes} (hlen : args.length ≤ fn.ntmps)
 (hsem : SemWp P fn.ntmps objs.length (restC fn []) (Ret T fn.results.toList r objs.length) (zeb args objs)) {w : World} {I : Nat → Prop} {γ : Nat → Option GI} {vs : Array Value} {wr : Nat → Prop} (hE : Entry w I γ wr args objs vs) :
 Calls P f vs w fun e w' => ∃ v I' γ',e = .returned v ∧ Leave w I γ wr r w' I' γ' v := by
 have hsem : SemWp P fn.ntmps objs.length (bodyC fn) (Ret T fn.results.toList r objs.length) (zeb args objs) := hsem
 refine calls_of_wp hf hb ?_
 have hsim : Sim w ⟨wr,I,γ⟩ fn.ntmps (zeb args objs) { tmps := vs ++ Array.replicate (fn.ntmps - vs.size) undef,defers := [] } w I γ := by
  refine ⟨by have := hE.len; simp; omega,fun n => ?_,hE.inv,rfl,hE.glob⟩
  simp only [zeb]
  by_cases hn : n < args.length
  ·have hn' : n < vs.size := by rw [← hE.len]; exact hn
   have e1 : args.getD n .junk = args[n] := by simp [hn]
   have e2 : (vs ++ Array.replicate (fn.ntmps - vs.size) undef).getD n undef = vs[n] := by
    rw [Array.getD_eq_getD_getElem?,Array.getElem?_append_left hn',Array.getElem?_eq_getElem hn']; rfl
   rw [e1,e2]
   exact hE.rd n _ _ (List.getElem?_eq_getElem hn) (Array.getElem?_eq_getElem hn')
  ·have e1 : args.getD n .junk = .junk := by simp [hn]
   rw [e1]; exact .junk _ _
 have hdom : ∀ n,objs.length ≤ n → γ n = none := by
  intro n hn
  cases hg : γ n with
  | none => rfl
  | some gi => exact absurd (List.getElem?_eq_none hn) (hE.inv.dom n gi hg)
 refine hsem _ _ _ _ _ _ hdom hsim _ fun e st' a' w' I' γ' hq hs => ?_
 obtain ⟨st1,hw,he,hk,ns,n1,n2,n3,n4,n5,n6⟩ := hq
 obtain ⟨I1,γ1,hs⟩ := hw _ _ _ _ _ _ _ hdom hs
 obtain ⟨x,x1,x2⟩ := ziA (P := P) hT hs n3
 have hinv := hs.inv.unren (f := ns) (g' := fun n => r.objs[n]?) (fun n o hn => n4 n o hn) (fun n m o o' h1 h2 he => n2 n m (List.getElem?_eq_some_iff.1 h1).1 (List.getElem?_eq_some_iff.1 h2).1 he)
  (fun n o hn => by
   have := n6 o (List.mem_of_getElem? hn)
   have e : (fun n => (r.objs[n]?).isSome) = fun j => decide (j < r.objs.length) := by
    funext j
    by_cases hj : j < r.objs.length <;> simp [hj]
   rw [e]; exact this)
  (fun n gi hn => by
   have hlt : n < objs.length := Nat.lt_of_not_le fun hle => by
    replace hn : γ n = some gi := hn
    rw [hdom n hle] at hn; cases hn
   have : n < r.objs.length := Nat.lt_of_lt_of_le hlt hk
   exact ⟨n1 n hlt,by simp [this]⟩)
 have hfin : a'.defers = [] ∧ ∃ v,(results fn a'.tmps).run P w' = .ok v w' ∧ ∃ v' I'' γ'',Ending.returned v = .returned v' ∧ Leave w I γ wr r w' I'' γ'' v' := by
  refine ⟨hs.defers,x,x1,x,I1,_,rfl,hinv,?_,?_⟩
  ·refine x2.unren (D := fun j => decide (j < r.objs.length)) _ rfl n5 fun n hn => ?_
   simp only [decide_eq_true_eq] at hn
   simp [hn]
  ·exact ⟨fun b hb => ⟨hs.inv.keep b hb,hs.inv.frame b (hE.inv.lt b hb) fun h => hE.wrI b h hb⟩,hinv.fix⟩
 cases e with
 | normal => exact hfin
 | ret => exact hfin
 | _ => exact he.elim
theorem zrk {f : FuncId} {fn : Func} (hf : P.funcs[f]? = some fn) (hname : (fn.name == "runtime.NumGoroutine") = false) (hb : fn.body = some (bodyC fn))
 {ι : Type} {A : ι → List V} {O : ι → List AObj} {ok : ι → Prop} {res : ι → CRes} (h : ∀ i,ok i → (A i).length ≤ fn.ntmps ∧ ∀ r,r = res i → SemWp P fn.ntmps (O i).length (restC fn []) (Ret T fn.results.toList r (O i).length) (zeb (A i) (O i))) (hT : zaB P T) : Spec P f (fam A O ok res) := by
 refine ⟨⟨fn,hf,hname,by rw [hb]; rfl⟩,fun args objs r hr w I γ wr vs hE => ?_⟩
 obtain ⟨i,hi,rfl,rfl,rfl⟩ := znR hr
 obtain ⟨hlen,hax⟩ := h i hi
 exact zkM hT hf hb hlen (hax _ rfl) hE
theorem Inv.dead {w0 w : World} {ex I γ} {g : Nat → Option AObj} (hi : Inv w0 ex I γ g w) {m : Nat} {o o' : AObj} (hg : g m = some o) (hd : o'.md = .dead) : Inv w0 ex I γ (upd g m (some o')) w := by
 have hup : ∀ x y,upd g m (some o') x = some y → y.md ≠ .dead → g x = some y := by
  intro x y h hy
  by_cases e : x = m
  ·subst e; rw [zax] at h; cases h; exact absurd hd hy
  ·rw [zav _ _ e] at h; exact h
 refine ⟨fun n x hx hm => hi.obj n x (hup n x hx hm) hm,fun a b o1 o2 gi gi' h1 h2 d1 d2 => hi.inj a b o1 o2 gi gi' (hup a o1 h1 d1) (hup b o2 h2 d2) d1 d2,fun a o1 gi h1 d1 => hi.own a o1 gi (hup a o1 h1 d1) d1,fun a gi h1 h2 => ?_,
  hi.lt,hi.keep,hi.fix,hi.back,hi.frame,hi.os,hi.tape,hi.output,hi.size,by
   obtain ⟨F,hF⟩ := hi.trees
   exact ⟨F,hF.less (fun _ h => h) (fun _ _ _ _ _ _ _ h => h) (fun n x hx hm => .inl ⟨x,hup n x hx hm,hm,fun _ _ _ h _ => h⟩) (fun n x gi hx hm hγ _ => ⟨hγ,x,hup n x hx hm,hm⟩)⟩⟩
 by_cases e : a = m
 ·subst e; rw [zax] at h2; cases h2
 ·rw [zav _ _ e] at h2; exact hi.dom a gi h1 h2
def znX (st : St) (n : Nat) : Bool := match st.g n with
 | some o => decide (o.md ≠ .dead) && decide (o.fl ≠ 0)
 | none => false
theorem zmb {st : St} {n : Nat} (h : znX st n = true) : ∃ o,st.g n = some o ∧ o.md ≠ .dead ∧ o.fl ≠ 0 := by
 unfold znX at h
 split at h
 ·rename_i o ho
  simp only [Bool.and_eq_true,decide_eq_true_eq] at h
  exact ⟨o,ho,h⟩
 ·cases h
end
end Go.Lift

namespace Go.Lift
variable {P : Program} {T : TypeId → Option TI} {C : FuncId → List V → List AObj → Option CRes} {k : Nat}
def open1 (st : St) (n j : Nat) : St := match st.g n with
 | some o => match o.elems with
  | [row] => match row[j]? with
   | some (.tree sl et es rows tight fl) => match st.g st.c with
    | none => if o.md = .rw then { st with g := upd (upd st.g n (some { o with elems := [row.set j (handle sl st.c ⟨et,es,rows,tight,fl,.rw⟩)],fl := 0 })) st.c (some ⟨et,es,rows,tight,fl,.rw⟩),c := st.c + 1 } else st
    | some _ => st
   | _ => st
  | _ => st
 | none => st
def openL (st : St) : List (Nat × Nat) → St
 | [] => st
 | p :: l => openL (open1 st p.1 p.2) l
theorem zoM (st : St) (n j : Nat) : Weak k st (open1 st n j) := by
 intro w0 ex N a w I γ hk hs
 unfold open1
 split
 ·rename_i o hg
  split
  ·rename_i row hrow
   split
   ·rename_i sl et es rows tight fl hc
    split
    ·rename_i hn
     split
     ·rename_i hmd
      obtain ⟨γ',h1,h2,_⟩ := hs.inv.unfold (nm := st.c) (i := 0) (j := j) (r := row) hg hmd hn (by rw [hrow]; rfl) hc
      rw [hrow] at h1
      exact ⟨I,γ',hs.size,fun m => h2.rd (hs.slots m),h1,hs.defers,hs.glob⟩
     ·exact ⟨I,γ,hs⟩
    ·exact ⟨I,γ,hs⟩
   ·exact ⟨I,γ,hs⟩
  ·exact ⟨I,γ,hs⟩
 ·exact ⟨I,γ,hs⟩
theorem zkr : ∀ (l : List (Nat × Nat)) (st : St),Weak k st (openL st l)
 | [],st => Weak.refl k st
 | p :: l,st => (zoM st p.1 p.2).trans (zkr l _)
def znd (l : List Nat) (st : St) : St := { st with g := zap st.g (zci st.g l) }
theorem zfO (l : List Nat) (st : St) : Weak k st (znd l st) := by
 intro w0 ex N a w I γ hk hs
 exact ⟨I,γ,hs.size,hs.slots,zf8 hs.inv l,hs.defers,hs.glob⟩
theorem zah (l : List (Nat × Nat)) (hT : zaB P T) (hC : zan P C) (hm : P.follows .mixedOrders = true) {f : FuncId} {fn : Func} (hf : P.funcs[f]? = some fn) (hname : (fn.name == "runtime.NumGoroutine") = false) {c : Code} (hb : fn.body = some c) (hd : dstOk fn.ntmps c = true)
 {ι : Type} {A : ι → List V} {O : ι → List AObj} {ok : ι → Prop} {res : ι → CRes} {n : Nat} (hn : fn.ntmps = n) (h : ∀ i,ok i → (A i).length ≤ n ∧ ∀ r,r = res i → axwp T C (O i).length c (Ret T fn.results.toList r (O i).length) (openL (zeb (A i) (O i)) l)) : Spec P f (fam A O ok res) := by
 have hbc : bodyC fn = c := by unfold bodyC; rw [hb]; rfl
 refine zrk hf hname (by rw [hb,hbc]) (fun i hi => ⟨by rw [hn]; exact (h i hi).1,fun r hr => ?_⟩) hT
 have := SemWp.of_axwp (N := fn.ntmps) hT hC hm hd ((h i hi).2 r hr)
 have e : restC fn [] = c := by
  unfold restC; rw [hbc]; cases c <;> rfl
 rw [e]
 exact SemWp.weak (zkr l _) this
def pick (st : St) : Nat ⊕ Nat → Nat
 | .inl n => n
 | .inr s => nmOf (st.s s)
def nil1 (st : St) (m j : Nat) (et : TypeId) (es : Nat) : St := match st.g m with
 | some o => match o.elems with
  | [row] => match row[j]? with
   | some (.sl 0 _ []) => match st.g st.c with
    | none => { st with g := upd (upd st.g st.c (some ⟨et,es,[],false,2,.rw⟩)) m (some { o with elems := [row.set j (.own st.c 0 0)],fl := 0 }),c := st.c + 1 }
    | some _ => st
   | _ => st
  | _ => st
 | none => st
def nilL (st : St) : List ((Nat ⊕ Nat) × Nat × TypeId × Nat) → St
 | [] => st
 | p :: l => nilL (nil1 st (pick st p.1) p.2.1 p.2.2.1 p.2.2.2) l
theorem zlD (st : St) (m j : Nat) (et : TypeId) (es : Nat) : Weak k st (nil1 st m j et es) := by
 intro w0 ex N a w I γ hk hs
 unfold nil1
 split
 ·rename_i o hg
  split
  ·rename_i row hrow
   split
   ·rename_i sz hc
    split
    ·rename_i hn
     have hne : m ≠ st.c := fun e => by rw [e,hn] at hg; cases hg
     obtain ⟨h1,h2⟩ := hs.inv.phantom hn (o := ⟨et,es,[],false,2,.rw⟩) rfl
     have hj : j < row.length := (List.getElem?_eq_some_iff.1 hc).1
     refine ⟨I,_,hs.size,fun n => h2.rd (hs.slots n),h1.redo (o := o) (by rw [zav _ _ hne]; exact hg) rfl (fun _ h => ?_) (fun i' j' u hu hut => ?_),hs.defers,hs.glob⟩
     ·refine ⟨fun e he => ?_,fun i' j' u hu => ?_,fun h0 => absurd rfl h0,fun h0 => by simp at h0,?_⟩
      ·simp at he; subst he
       rw [List.length_set]; exact h.rows row (by rw [hrow]; simp)
      ·rcases zbS (rows := [row]) (i := 0) rfl hj hu with ⟨rfl,rfl,rfl⟩ | ⟨_,h6⟩
       ·rfl
       ·exact h.cel _ _ _ (by rw [hrow]; exact h6)
      ·rcases h.at_ with ⟨he,_⟩ | ⟨gi,cur,fr,hγ,ha⟩
       ·rw [hrow] at he; cases he
       ·refine .inr ⟨gi,cur,fr,hγ,ha.nn,ha.es,ha.heap,ha.frz,ha.size,by have := ha.le; rw [hrow] at this; simpa using this,fun ht => by have := ha.tight ht; rw [hrow] at this; simpa using this,ha.max,fun i' j' u hu => ?_,ha.ro,ha.rw⟩
        rcases zbS (rows := [row]) (i := 0) rfl hj hu with ⟨rfl,rfl,rfl⟩ | ⟨_,h6⟩
        ·obtain ⟨x,x1,x2⟩ := ha.cells 0 j' (.sl 0 sz []) (by rw [hrow]; exact zau rfl hc)
         refine ⟨x,x1,?_⟩
         cases x2 with
         | nil => exact .ownnil _ _ _ ⟨0,0,0,true⟩ (by simp [gUp]) rfl
         | sl _ _ _ _ a n c xs h0 => exact absurd rfl h0
        ·exact ha.cells _ _ _ (by rw [hrow]; exact h6)
     ·rcases zbS (rows := [row]) (i := 0) rfl hj hu with ⟨rfl,rfl,rfl⟩ | ⟨_,h6⟩
      ·cases hut
      ·rw [hrow]; exact h6
    ·exact ⟨I,γ,hs⟩
   ·exact ⟨I,γ,hs⟩
  ·exact ⟨I,γ,hs⟩
 ·exact ⟨I,γ,hs⟩
theorem zkZ : ∀ (l : List ((Nat ⊕ Nat) × Nat × TypeId × Nat)) (st : St),Weak k st (nilL st l)
 | [],st => Weak.refl k st
 | p :: l,st => (zlD st _ _ _ _).trans (zkZ l _)
def zcd (nl : List ((Nat ⊕ Nat) × Nat × TypeId × Nat)) (cl : List (Nat ⊕ Nat)) (st : St) : St := znd (cl.map (pick st)) (nilL st nl)
theorem zk3 (nl : List ((Nat ⊕ Nat) × Nat × TypeId × Nat)) (cl : List (Nat ⊕ Nat)) (st : St) : Weak k st (zcd nl cl st) := (zkZ nl st).trans (zfO _ _)
theorem retC {T : TypeId → Option TI} {res : List ResultVar} {k : Nat} {e : Exit} {st : St} {v : V} {os : List AObj} (nl : List ((Nat ⊕ Nat) × Nat × TypeId × Nat)) (cl : List (Nat ⊕ Nat)) (l : List (Nat ⊕ Nat)) (he : isEnd e = true)
 (h : retV T (zcd nl cl st) res = some (v.ren (zaN (zcd nl cl st) l)) ∧ zgh (zaN (zcd nl cl st) l) (zcd nl cl st) 0 os ∧ k ≤ os.length ∧ (∀ j,j < k → zaN (zcd nl cl st) l j = j) ∧
  injL (zaN (zcd nl cl st) l) 0 os ∧ v.within (fun j => decide (j < os.length)) = true ∧ ∀ o ∈ os,o.within (fun j => decide (j < os.length)) = true) : Ret T res ⟨v,os⟩ k e st :=
 Ret.weak (zb5 l he h.1 h.2.1 h.2.2.1 h.2.2.2.1 h.2.2.2.2.1 h.2.2.2.2.2.1 h.2.2.2.2.2.2) (zk3 nl cl st)
def nilA (st : St) (m j es : Nat) : St := match st.g m with
 | some o => match o.elems with
  | [row] => match row[j]? with
   | some (.sl 0 _ []) => { st with g := upd st.g m (some { o with elems := [row.set j (.sl 2 es [])] }) }
   | _ => st
  | _ => st
 | none => st
def nilAt (st : St) (m : Nat ⊕ Nat) (j es : Nat) : St := nilA st (pick st m) j es
attribute [simp] nilA nilAt
def tagO (o : AObj) : AObj := { o with elems := o.elems.map (·.map tagC) }
def tag1 (st : St) (m : Nat) : St := match st.g m with
 | some o => { st with g := upd st.g m (some (tagO o)) }
 | none => st
def tagL (st : St) : List (Nat ⊕ Nat) → St
 | [] => st
 | p :: l => tagL (tag1 st (pick st p)) l
theorem zex (v : V) : tagC v = v ∨ ∃ t es rows,v = .sl t es rows ∧ tagC v = .sl 2 es rows := by cases v <;> first | exact .inl rfl | exact .inr ⟨_,_,_,rfl,rfl⟩
theorem zqy (st : St) (m : Nat) : Weak k st (tag1 st m) := by
 intro w0 ex N a w I γ hk hs
 unfold tag1
 split
 ·rename_i o hg
  have hcell : ∀ {i j u},zag (tagO o).elems i j = some u → ∃ u0,zag o.elems i j = some u0 ∧ u = tagC u0 := by
   intro i j u h
   obtain ⟨r,h1,h2⟩ := zam h
   simp only [tagO,List.getElem?_map] at h1
   cases hr : o.elems[i]? with
   | none => rw [hr] at h1; cases h1
   | some r0 =>
    rw [hr] at h1; cases h1
    rw [List.getElem?_map] at h2
    cases hu : r0[j]? with
    | none => rw [hu] at h2; cases h2
    | some u0 => rw [hu] at h2; cases h2; exact ⟨u0,zau hr hu,rfl⟩
  refine ⟨I,γ,hs.size,hs.slots,hs.inv.redo hg rfl (fun _ h => ⟨fun e he => ?_,fun i j u hu => ?_,fun hf i j u hu => ?_,fun hf i j u hu => ?_,?_⟩) (fun i j u hu hut => ?_),hs.defers,hs.glob⟩
  ·obtain ⟨e0,h1,rfl⟩ := List.mem_map.1 he
   rw [List.length_map]; exact h.rows e0 h1
  ·obtain ⟨u0,h1,rfl⟩ := hcell hu
   have := h.cel _ _ _ h1
   rcases zex u0 with e | ⟨t,es,rows,_,e⟩ <;> rw [e]
   ·exact this
   ·rfl
  ·obtain ⟨u0,h1,rfl⟩ := hcell hu
   have := h.closed hf _ _ _ h1
   rcases zex u0 with e | ⟨t,es,rows,_,e⟩ <;> rw [e]
   ·exact this
   ·rfl
  ·obtain ⟨u0,h1,rfl⟩ := hcell hu
   have := h.scalar hf _ _ _ h1
   rcases zex u0 with e | ⟨t,es,rows,e0,e⟩ <;> rw [e]
   ·exact this
   ·rw [e0] at this; simpa using this
  ·rcases h.at_ with ⟨he,gi,h1,h2⟩ | ⟨gi,cur,fr,hγ,ha⟩
   ·exact .inl ⟨by simp [tagO,he],gi,h1,h2⟩
   ·refine .inr ⟨gi,cur,fr,hγ,ha.nn,ha.es,ha.heap,ha.frz,ha.size,by simpa [tagO] using ha.le,by simpa [tagO] using ha.tight,ha.max,fun i j u hu => ?_,ha.ro,ha.rw⟩
    obtain ⟨u0,h1,rfl⟩ := hcell hu
    obtain ⟨x,x1,x2⟩ := ha.cells _ _ _ h1
    exact ⟨x,x1,zni x2⟩
  ·obtain ⟨u0,h1,rfl⟩ := hcell hu
   rcases zex u0 with e | ⟨t,es,rows,_,e⟩
   ·rw [e]; exact h1
   ·rw [e] at hut; cases hut
 ·exact ⟨I,γ,hs⟩
theorem zll : ∀ (l : List (Nat ⊕ Nat)) (st : St),Weak k st (tagL st l)
 | [],st => Weak.refl k st
 | p :: l,st => (zqy st _).trans (zll l _)
def zjm (st : St) : List Nat → Bool
 | [] => true
 | n :: l => znX st n && zjm st l
theorem zhT {st : St} : ∀ {l : List Nat},zjm st l = true → ∀ n ∈ l,∃ o,st.g n = some o ∧ o.md ≠ .dead ∧ o.fl ≠ 0
 | [],_,n,h => by simp at h
 | m :: l,h,n,hn => by
  simp only [zjm,Bool.and_eq_true] at h
  rcases List.mem_cons.1 hn with rfl | hn
  ·exact zmb h.1
  ·exact zhT h.2 n hn
def endSt (fz tg : List (Nat ⊕ Nat)) (nl : List ((Nat ⊕ Nat) × Nat × TypeId × Nat)) (cl : List (Nat ⊕ Nat)) (st : St) : St := zcd nl cl (tagL (fzSt (fz.map (pick st)) st) tg)
theorem ztd (fz tg : List (Nat ⊕ Nat)) (nl : List ((Nat ⊕ Nat) × Nat × TypeId × Nat)) (cl : List (Nat ⊕ Nat)) (st : St) (h : zjm st (fz.map (pick st)) = true) : Weak k st (endSt fz tg nl cl st) :=
 (zrR _ (zhT h)).trans ((zll tg _).trans (zk3 nl cl _))
theorem retE {T : TypeId → Option TI} {res : List ResultVar} {k : Nat} {e : Exit} {st : St} {v : V} {os : List AObj} (fz tg : List (Nat ⊕ Nat)) (nl : List ((Nat ⊕ Nat) × Nat × TypeId × Nat)) (cl : List (Nat ⊕ Nat)) (l : List (Nat ⊕ Nat)) (he : isEnd e = true)
 (h : zjm st (fz.map (pick st)) = true ∧ retV T (endSt fz tg nl cl st) res = some (v.ren (zaN (endSt fz tg nl cl st) l)) ∧ zgh (zaN (endSt fz tg nl cl st) l) (endSt fz tg nl cl st) 0 os ∧ k ≤ os.length ∧ (∀ j,j < k → zaN (endSt fz tg nl cl st) l j = j) ∧
  injL (zaN (endSt fz tg nl cl st) l) 0 os ∧ v.within (fun j => decide (j < os.length)) = true ∧ ∀ o ∈ os,o.within (fun j => decide (j < os.length)) = true) : Ret T res ⟨v,os⟩ k e st :=
 Ret.weak (zb5 l he h.2.1 h.2.2.1 h.2.2.2.1 h.2.2.2.2.1 h.2.2.2.2.2.1 h.2.2.2.2.2.2.1 h.2.2.2.2.2.2.2) (ztd fz tg nl cl st h.1)
def flAt (st : St) (m : Nat ⊕ Nat) (f : Nat) : St := match st.g (pick st m) with
 | some o => if f ≤ o.fl then { st with g := upd st.g (pick st m) (some { o with fl := f }) } else st
 | none => st
theorem zkj {st : St} (m : Nat ⊕ Nat) (f : Nat) : Weak k st (flAt st m f) := by
 unfold flAt
 split
 ·rename_i o hg
  split
  ·rename_i hf; exact zu5 _ _ o hg hf
  ·exact Weak.refl _ _
 ·exact Weak.refl _ _
attribute [simp] flAt tagO tag1 tagL zjm znX endSt
attribute [simp] open1 openL znd pick nil1 nilL zcd AObj.within V.withinC V.within V.within.withinAll
end Go.Lift

namespace Go.Lift
variable {k : Nat}
def nilC (es : Nat) : V → V
 | .sl 0 _ [] => .sl 2 es []
 | v => v
theorem zcP (es : Nat) (v : V) : nilC es v = v ∨ ∃ e,v = .sl 0 e [] ∧ nilC es v = .sl 2 es [] := by
 unfold nilC
 split
 ·exact .inr ⟨_,rfl,rfl⟩
 ·exact .inl rfl
def nilO (es : Nat) (o : AObj) : AObj := { o with elems := o.elems.map (·.map (nilC es)) }
def nilR (st : St) (m : Nat ⊕ Nat) (es : Nat) : St := match st.g (pick st m) with
 | some o => { st with g := upd st.g (pick st m) (some (nilO es o)) }
 | none => st
theorem zr2 (st : St) (m : Nat ⊕ Nat) (es : Nat) : Weak k st (nilR st m es) := by
 intro w0 ex N a w I γ hk hs
 unfold nilR
 split
 ·rename_i o hg
  have hcell : ∀ {i j u},zag (nilO es o).elems i j = some u → ∃ u0,zag o.elems i j = some u0 ∧ u = nilC es u0 := by
   intro i j u h
   obtain ⟨r,h1,h2⟩ := zam h
   simp only [nilO,List.getElem?_map] at h1
   cases hr : o.elems[i]? with
   | none => rw [hr] at h1; cases h1
   | some r0 =>
    rw [hr] at h1; cases h1
    rw [List.getElem?_map] at h2
    cases hu : r0[j]? with
    | none => rw [hu] at h2; cases h2
    | some u0 => rw [hu] at h2; cases h2; exact ⟨u0,zau hr hu,rfl⟩
  refine ⟨I,γ,hs.size,hs.slots,hs.inv.redo hg rfl (fun _ h => ⟨fun e he => ?_,fun i j u hu => ?_,fun hf i j u hu => ?_,fun hf i j u hu => ?_,?_⟩) (fun i j u hu hut => ?_),hs.defers,hs.glob⟩
  ·obtain ⟨e0,h1,rfl⟩ := List.mem_map.1 he
   rw [List.length_map]; exact h.rows e0 h1
  ·obtain ⟨u0,h1,rfl⟩ := hcell hu
   have := h.cel _ _ _ h1
   rcases zcP es u0 with e | ⟨_,_,e⟩ <;> rw [e]
   ·exact this
   ·rfl
  ·obtain ⟨u0,h1,rfl⟩ := hcell hu
   have := h.closed hf _ _ _ h1
   rcases zcP es u0 with e | ⟨_,_,e⟩ <;> rw [e]
   ·exact this
   ·rfl
  ·obtain ⟨u0,h1,rfl⟩ := hcell hu
   have := h.scalar hf _ _ _ h1
   rcases zcP es u0 with e | ⟨_,_,e⟩ <;> rw [e]
   ·exact this
   ·rfl
  ·rcases h.at_ with ⟨he,gi,h1,h2⟩ | ⟨gi,cur,fr,hγ,ha⟩
   ·exact .inl ⟨by simp [nilO,he],gi,h1,h2⟩
   ·refine .inr ⟨gi,cur,fr,hγ,ha.nn,ha.es,ha.heap,ha.frz,ha.size,by simpa [nilO] using ha.le,by simpa [nilO] using ha.tight,ha.max,fun i j u hu => ?_,ha.ro,ha.rw⟩
    obtain ⟨u0,h1,rfl⟩ := hcell hu
    obtain ⟨x,x1,x2⟩ := ha.cells _ _ _ h1
    refine ⟨x,x1,?_⟩
    rcases zcP es u0 with e | ⟨e0,he,e⟩ <;> rw [e]
    ·exact x2
    ·rw [he] at x2
     cases x2 with
     | nil => exact .nil _ 2 es (by decide)
     | sl _ _ _ _ a n c xs h0 => exact absurd rfl h0
  ·obtain ⟨u0,h1,rfl⟩ := hcell hu
   rcases zcP es u0 with e | ⟨_,_,e⟩
   ·rw [e]; exact h1
   ·rw [e] at hut; cases hut
 ·exact ⟨I,γ,hs⟩
def zqr (st : St) (m : Nat ⊕ Nat) : St := match st.g (pick st m) with
 | some o => { st with g := upd st.g (pick st m) (some { o with tight := false }) }
 | none => st
theorem zmE (st : St) (m : Nat ⊕ Nat) : Weak k st (zqr st m) := by
 unfold zqr
 split
 ·rename_i o hg; exact zpD _ o hg
 ·exact Weak.refl _ _
def slotR (st : St) (n es : Nat) : St := match st.s n with
 | .sl 0 _ [] => { st with s := upd st.s n (.sl 2 es []) }
 | _ => st
theorem za3 (st : St) (n es : Nat) : Weak k st (slotR st n es) := by
 unfold slotR
 split
 ·rename_i e he
  intro w0 ex N a w I γ hk hs
  refine ⟨I,γ,hs.size,fun m => ?_,hs.inv,hs.defers,hs.glob⟩
  have h := hs.slots m
  by_cases hm : m = n
  ·subst hm
   rw [he] at h
   simp only [zax]
   generalize a.tmps.getD m undef = x at h ⊢
   cases h with
   | nil => exact .nil _ 2 es (by decide)
   | sl _ _ _ _ a n c xs h0 => exact absurd rfl h0
  ·simp only [zav _ _ hm]; exact h
 ·exact Weak.refl _ _
def zqS (st : St) (n j : Nat) : Nat := match st.g n with
 | some o => match o.elems with
  | [row] => match row[j]? with
   | some v => nmOf v
   | none => 0
  | _ => 0
 | none => 0
def cellL (st : St) (l : List (Nat ⊕ Nat)) (cs : List (Nat × Nat)) : List (Nat ⊕ Nat) := l ++ cs.map fun p => .inl (zqS st p.1 p.2)
attribute [simp] nilR nilO nilC zqr slotR zqS cellL
end Go.Lift

namespace Go.Lift
set_option maxRecDepth 1000000
theorem tk_b {x y j e : Nat} (h5 : x ≤ 500000000) (h3 : e ≤ 4096) (u1 : j ≤ e) (u3 : y ≤ x + 65600 * (j + 1)) : y ≤ 1000000000 := by omega
theorem tk_1 {x y z j : Nat} (h : z ≤ y + 65600) (u3 : y ≤ x + 65600 * (j + 1)) : z ≤ x + 65600 * (j + 1 + 1) := by omega
end Go.Lift

namespace Go.Proofs.YtcpdgbncekdicaaGreat
open Go.Lift
attribute [simp] zlH zqA zsm
def diskO (l : List UInt8) (d : Nat) : AObj := ⟨115,2,[[.tree true 5 1 (zaf l) false 2,.int .i64 d]],true,0,.rw⟩
@[simp] theorem diskO_inj {a c : List UInt8} {b d : Nat} : diskO a b = diskO c d ↔ a = c ∧ b = d := by
 constructor
 ·intro h
  simp [diskO] at h
  exact ⟨h.1,by omega⟩
 ·rintro ⟨rfl,rfl⟩; rfl
@[simp] theorem disk_names (l : List UInt8) (d : Nat) (f : Nat → Nat) : (diskO l d).ren f = diskO l d := by simp [diskO]
@[simp] theorem disk_within (l : List UInt8) (d : Nat) (D : Nat → Bool) : (diskO l d).within D = true := by simp [diskO]
@[simp] theorem disk_shut (l : List UInt8) (d : Nat) : nameless (diskO l d) = true := by simp [diskO]
@[simp] theorem disk_scalar (l : List UInt8) (d : Nat) : zbA (diskO l d) = true := by simp [diskO]
@[simp] theorem disk_elems (l : List UInt8) (d : Nat) : (diskO l d).elems = [[.tree true 5 1 (zaf l) false 2,.int .i64 d]] := rfl
@[simp] theorem disk_et (l : List UInt8) (d : Nat) : (diskO l d).et = 115 := rfl
@[simp] theorem disk_es (l : List UInt8) (d : Nat) : (diskO l d).es = 2 := rfl
@[simp] theorem disk_tight (l : List UInt8) (d : Nat) : (diskO l d).tight = true := rfl
@[simp] theorem disk_fold (l : List UInt8) (d : Nat) : (⟨115,2,[[.tree true 5 1 (zaf l) false 2,.int .i64 d]],true,0,.rw⟩ : AObj) = diskO l d := rfl
@[simp] theorem disk_fold0 : (⟨115,2,[[.tree true 5 1 [] false 2,.int .i64 0]],true,0,.rw⟩ : AObj) = diskO [] 0 := rfl
@[simp] theorem disk_foldz (l : List UInt8) : (⟨115,2,[[.tree true 5 1 (zaf l) false 2,.int .i64 0]],true,0,.rw⟩ : AObj) = diskO l 0 := rfl
@[simp] theorem disk_md (l : List UInt8) (d : Nat) : (diskO l d).md = .rw := rfl
@[simp] theorem disk_fl (l : List UInt8) (d : Nat) : (diskO l d).fl = 0 := rfl
noncomputable def zeh := fam (fun _ : (List UInt8) × Nat => [V.ptr 0 0 0]) (fun i => [diskO i.1 i.2]) (fun i => (i.1.length ≤ 4611686018427387904)) (fun i => ⟨.tup [],[diskO i.1 i.1.length]⟩)
@[simp] theorem dksyncSp_eq {l : List UInt8} {d : Nat} (h1 : l.length ≤ 4611686018427387904) : zeh ([V.ptr 0 0 0]) ([diskO l d]) = some (⟨.tup [],[diskO l l.length]⟩) :=
 zai (by rintro ⟨a0,a1⟩ ⟨b0,b1⟩ h h' <;> simp at h h' <;> simp_all) (l,d) h1
theorem zhi : Lift.Spec Tryz.prog 101 zeh := by
 refine zah [] (C := C0) zac C0_ok follows Tryz.func101 (by kernel_rfl) rfl (by kernel_rfl) rfl ?_
 rintro ⟨l,d⟩ h1
 try simp only at h1
 refine ⟨by simp,?_⟩
 intro r hr
 simp
 rw [hr]
 refine retC [] [.inl 0] [] rfl ?_
 simp
noncomputable def zcL := fam (fun i : (List UInt8) × Nat × Nat × (List UInt8) => [V.ptr 0 0 0,.sl i.2.2.1 1 (zaf i.2.2.2)]) (fun i => [diskO i.1 i.2.1]) (fun i => (i.1.length + i.2.2.2.length ≤ 140737488355328)) (fun i => ⟨.tup [],[diskO (i.1 ++ i.2.2.2) i.2.1]⟩)
@[simp] theorem dkappendSp_eq {l : List UInt8} {d t : Nat} {b : List UInt8} (h1 : l.length + b.length ≤ 140737488355328) : zcL ([V.ptr 0 0 0,.sl t 1 (zaf b)]) ([diskO l d]) = some (⟨.tup [],[diskO (l ++ b) d]⟩) :=
 zai (by rintro ⟨a0,a1,a2,a3⟩ ⟨b0,b1,b2,b3⟩ h h' <;> simp at h h' <;> simp_all) (l,d,t,b) h1
theorem zfs : Lift.Spec Tryz.prog 147 zcL := by
 refine zah [] (C := C0) zac C0_ok follows Tryz.func147 (by kernel_rfl) rfl (by kernel_rfl) rfl ?_
 rintro ⟨l,d,t,b⟩ h1
 try simp only at h1
 refine ⟨by simp,?_⟩
 intro r hr
 have h2 : (l.length : Int) + (b.length : Int) ≤ 140737488355328 := by omega
 simp [h2]
 rw [hr]
 refine retC [] [.inl 0] [] rfl ?_
 simp
noncomputable def zcA := fam (fun _ : (List UInt8) × Nat => [V.ptr 0 0 0]) (fun i => [diskO i.1 i.2]) (fun i => (i.1.length ≤ 140737488355328)) (fun i => ⟨.own 1 0 i.1.length,[diskO i.1 i.2,⟨5,1,zaf i.1,false,2,.rw⟩]⟩)
@[simp] theorem dkbytesSp_eq {l : List UInt8} {d : Nat} (h1 : l.length ≤ 140737488355328) : zcA ([V.ptr 0 0 0]) ([diskO l d]) = some (⟨.own 1 0 l.length,[diskO l d,⟨5,1,zaf l,false,2,.rw⟩]⟩) :=
 zai (by rintro ⟨a0,a1⟩ ⟨b0,b1⟩ h h' <;> simp at h h' <;> simp_all) (l,d) h1
theorem zed : Lift.Spec Tryz.prog 124 zcA := by
 refine zah [(0,0)] (C := C0) zac C0_ok follows Tryz.func124 (by kernel_rfl) rfl (by kernel_rfl) rfl ?_
 rintro ⟨l,d⟩ h1
 try simp only at h1
 refine ⟨by simp,?_⟩
 intro r hr
 have h2 : (l.length : Int) ≤ 140737488355328 := by omega
 simp [h2]
 (repeat refine dr ?_)
 rw [hr]
 refine retC [] [.inl 0] [.inl 0,.inr 2] rfl ?_
 simp
noncomputable def zhj := fam (fun _ : Unit => []) (fun _ => []) (fun _ => True) (fun _ => ⟨.ptr 0 0 0,[diskO [] 0]⟩)
theorem zrg {u : Unit}  : zhj ([]) ([]) = some (⟨.ptr 0 0 0,[diskO [] 0]⟩) :=
 zai (by intro a b h h' <;> simp at h h' <;> simp_all) u trivial
@[simp] theorem dnewSp_at : zhj [] [] = some ⟨.ptr 0 0 0,[diskO [] 0]⟩ := zrg (u := ())
theorem zln : Lift.Spec Tryz.prog 59 zhj := by
 refine zaj (C := C0) zac C0_ok follows Tryz.func59 (by kernel_rfl) rfl (by kernel_rfl) rfl ?_
 rintro u _
 try simp only at _
 refine ⟨by simp,?_⟩
 intro r hr
 simp
 rw [hr]
 refine retC [(.inr 0,0,5,1)] [.inr 0] [.inr 0] rfl ?_
 simp
noncomputable def CK1 := mkC [(101,zeh),(124,zcA)]
theorem zt9 : zan Tryz.prog CK1 := zay (zab zhi (zab zed zar))
@[simp] theorem CK1_1 : CK1 101 = zeh := rfl
@[simp] theorem CK1_2 : CK1 124 = zcA := rfl
noncomputable def zeu := fam (fun _ : (List UInt8) × Nat => [V.ptr 0 0 0]) (fun i => [diskO i.1 i.2]) (fun i => (i.1.length ≤ 140737488355328)) (fun i => ⟨.ptr 1 0 0,[diskO i.1 i.2,diskO i.1 i.2]⟩)
@[simp] theorem dkcopySp_eq {l : List UInt8} {d : Nat} (h1 : l.length ≤ 140737488355328) : zeu ([V.ptr 0 0 0]) ([diskO l d]) = some (⟨.ptr 1 0 0,[diskO l d,diskO l d]⟩) :=
 zai (by rintro ⟨a0,a1⟩ ⟨b0,b1⟩ h h' <;> simp at h h' <;> simp_all) (l,d) h1
theorem zh0 : Lift.Spec Tryz.prog 95 zeu := by
 refine zah [] (C := CK1) zac zt9 follows Tryz.func95 (by kernel_rfl) rfl (by kernel_rfl) rfl ?_
 rintro ⟨l,d⟩ h1
 try simp only at h1
 refine ⟨by simp,?_⟩
 intro r hr
 simp [h1]
 (repeat refine dr ?_)
 rw [hr]
 refine retC [] [.inr 2] [.inl 0,.inr 2] rfl ?_
 simp
def zcW (n d : Nat) (keep : Int) : Nat := d + min keep.toNat (n - d)
noncomputable def zdE := fam (fun i : (List UInt8) × Nat × Int => [V.ptr 0 0 0,.int .i64 i.2.2]) (fun i => [diskO i.1 i.2.1]) (fun i => (i.1.length ≤ 140737488355328) ∧ (i.2.1 ≤ i.1.length)) (fun i => ⟨.tup [],[diskO (i.1.take (zcW i.1.length i.2.1 i.2.2)) (zcW i.1.length i.2.1 i.2.2)]⟩)
@[simp] theorem zlw {l : List UInt8} {d : Nat} {keep : Int} (h1 : l.length ≤ 140737488355328) (h2 : d ≤ l.length) : zdE ([V.ptr 0 0 0,.int .i64 keep]) ([diskO l d]) = some (⟨.tup [],[diskO (l.take (zcW l.length d keep)) (zcW l.length d keep)]⟩) :=
 zai (by rintro ⟨a0,a1,a2⟩ ⟨b0,b1,b2⟩ h h' <;> simp at h h' <;> simp_all) (l,d,keep) ⟨h1,h2⟩
theorem zgD : Lift.Spec Tryz.prog 113 zdE := by
 refine zah [(0,0)] (C := CK1) zac zt9 follows Tryz.func113 (by kernel_rfl) rfl (by kernel_rfl) rfl ?_
 rintro ⟨l,d,keep⟩ ⟨h1,h2⟩
 try simp only at h1 h2
 refine ⟨by simp,?_⟩
 intro r hr
 have w1 : IntKind.i64.wrap ((l.length : Int) - d) = l.length - d := w64
 have hk : ∀ p k : Int,0 ≤ p → (if 0 < if p < k then p else k then if p < k then p else k else 0) = ((min k.toNat p.toNat : Nat) : Int) := by
  intro p k hp
  split <;> split at * <;> omega
 have hc : zcW l.length d keep ≤ l.length := by unfold zcW; omega
 have h3 : min (zcW l.length d keep) l.length = zcW l.length d keep := by omega
 have h4 : zcW l.length d keep ≤ 4611686018427387904 := by omega
 have w2 : IntKind.i64.wrap ((d : Int) + ((min keep.toNat ((l.length : Int) - d).toNat : Nat) : Int)) = ((zcW l.length d keep : Nat) : Int) := by
  rw [w64]; unfold zcW; omega
 simp [w1]
 (repeat refine dr ?_)
 rw [hk _ _ (by omega),w2]
 simp [hc,h3,h4]
 (repeat refine dr ?_)
 rw [hr]
 refine retC [] [.inl 0] [] rfl ?_
 simp
def zic (l : List UInt8) (d : Nat) (n : Int) : AObj := if n < 0 ∨ (l.length : Int) < n then diskO l d else diskO (l.take n.toNat) (min d n.toNat)
def zk2 (l : List UInt8) (n : Int) : Int := if n < 0 ∨ (l.length : Int) < n then 1 else 0
noncomputable def zfE := fam (fun i : (List UInt8) × Nat × Int => [V.ptr 0 0 0,.int .i64 i.2.2]) (fun i => [diskO i.1 i.2.1]) (fun i => (i.1.length ≤ 140737488355328) ∧ (i.2.1 ≤ i.1.length)) (fun i => ⟨.int .i64 (zk2 i.1 i.2.2),[zic i.1 i.2.1 i.2.2]⟩)
@[simp] theorem dktruncSp_eq {l : List UInt8} {d : Nat} {n : Int} (h1 : l.length ≤ 140737488355328) (h2 : d ≤ l.length) : zfE ([V.ptr 0 0 0,.int .i64 n]) ([diskO l d]) = some (⟨.int .i64 (zk2 l n),[zic l d n]⟩) :=
 zai (by rintro ⟨a0,a1,a2⟩ ⟨b0,b1,b2⟩ h h' <;> simp at h h' <;> simp_all) (l,d,n) ⟨h1,h2⟩
theorem zk1 : Lift.Spec Tryz.prog 134 zfE := by
 refine zah [(0,0)] (C := C0) zac C0_ok follows Tryz.func134 (by kernel_rfl) rfl (by kernel_rfl) rfl ?_
 rintro ⟨l,d,n⟩ ⟨h1,h2⟩
 try simp only at h1 h2
 refine ⟨by simp,?_⟩
 intro r hr
 by_cases h0 : n < 0
 ·simp [h0]
  (repeat refine dr ?_)
  rw [hr]
  refine retC [] [.inl 0] [] rfl ?_
  simp [zk2,zic,h0]
 ·by_cases h3 : (l.length : Int) < n
  ·simp [h0,h3]
   rw [hr]
   refine retC [] [.inl 0] [] rfl ?_
   simp [zk2,zic,h0,h3]
  ·obtain ⟨k,rfl⟩ := Int.eq_ofNat_of_zero_le (show 0 ≤ n by omega)
   have h4 : k ≤ l.length := by omega
   have h5 : (if k < d then (k : Int) else d) = ((min d k : Nat) : Int) := by split <;> omega
   simp [h0,h3,h4,h5]
   rw [hr]
   refine retC [] [.inl 0] [] rfl ?_
   simp [zk2,zic,h0,h3,h4,h5]
end Go.Proofs.YtcpdgbncekdicaaGreat

namespace Go.Proofs.YtcpdgbncekdicaaGreat
open Go.Lift
def refO (l : List UInt8) (d : Nat) : AObj := ⟨117,2,[[.sl 2 1 (zaf l),.int .i64 d]],true,1,.rw⟩
@[simp] theorem refO_inj {a c : List UInt8} {b d : Nat} : refO a b = refO c d ↔ a = c ∧ b = d := by
 constructor
 ·intro h
  simp [refO] at h
  exact ⟨h.1,by omega⟩
 ·rintro ⟨rfl,rfl⟩; rfl
@[simp] theorem ref_elems (l : List UInt8) (d : Nat) : (refO l d).elems = [[.sl 2 1 (zaf l),.int .i64 d]] := rfl
@[simp] theorem ref_et (l : List UInt8) (d : Nat) : (refO l d).et = 117 := rfl
@[simp] theorem ref_es (l : List UInt8) (d : Nat) : (refO l d).es = 2 := rfl
@[simp] theorem ref_tight (l : List UInt8) (d : Nat) : (refO l d).tight = true := rfl
@[simp] theorem ref_md (l : List UInt8) (d : Nat) : (refO l d).md = .rw := rfl
@[simp] theorem ref_fl (l : List UInt8) (d : Nat) : (refO l d).fl = 1 := rfl
@[simp] theorem ref_fold (l : List UInt8) (d : Nat) : (⟨117,2,[[.sl 2 1 (zaf l),.int .i64 d]],true,1,.rw⟩ : AObj) = refO l d := rfl
@[simp] theorem ref_fold0 : (⟨117,2,[[.sl 2 1 [],.int .i64 0]],true,1,.rw⟩ : AObj) = refO [] 0 := rfl
@[simp] theorem ref_foldz (l : List UInt8) : (⟨117,2,[[.sl 2 1 (zaf l),.int .i64 0]],true,1,.rw⟩ : AObj) = refO l 0 := rfl
@[simp] theorem ref_names (l : List UInt8) (d : Nat) (f : Nat → Nat) : (refO l d).ren f = refO l d := by simp [AObj.ren]
@[simp] theorem ref_shut (l : List UInt8) (d : Nat) : nameless (refO l d) = true := rfl
@[simp] theorem ref_scalar (l : List UInt8) (d : Nat) : zbA (refO l d) = false := rfl
end Go.Proofs.YtcpdgbncekdicaaGreat

namespace Go.Proofs.YtcpdgbncekdicaaGreat
open Go.Lift
structure JN where
 b : List UInt8
 d : Nat
 term : Int
 vote : Int
 log : List GLogged
def stE (J : JN) (t v : Int) : Int := if t < 0 ∨ 1073741824 < t ∨ v < -1 ∨ 5 ≤ v then 1 else if t < J.term ∨ t = J.term ∧ J.vote ≠ -1 ∧ J.vote ≠ v then 20 else 0
def stJ (J : JN) (t v : Int) : JN := if stE J t v = 0 then { J with term := t,vote := v } else J
def logAt (l : List GLogged) (i : Int) : GLogged := if 0 ≤ i ∧ i < l.length then l.getD i.toNat ⟨0,⟨0,0,0,0,0,0,0,0,0⟩⟩ else ⟨0,⟨0,0,0,0,0,0,0,0,0⟩⟩
def lastT (l : List GLogged) : Int := (logAt l ((l.length : Int) - 1)).Term
def adE (J : JN) (t : Int) (e : GEntry) : Int := if t < 1 ∨ 1073741824 < t ∨ zbj e = false then 1 else if J.term < t ∨ t < lastT J.log then 20 else if 4096 ≤ J.log.length then 2 else 0
def adJ (J : JN) (t : Int) (e : GEntry) : JN := if adE J t e = 0 then { J with log := J.log ++ [⟨t,e⟩] } else J
def cuE (J : JN) (n : Int) : Int := if n < 0 ∨ (J.log.length : Int) < n then 1 else 0
def cuJ (J : JN) (n : Int) : JN := if cuE J n = 0 then { J with log := J.log.take n.toNat } else J
def rjO (J : JN) : AObj := ⟨79,4,[[.tree false 117 2 [[.sl 2 1 (zaf J.b),.int .i64 J.d]] true 1,.int .i64 J.term,.int .i64 J.vote,.sl 2 10 (GLogged.row J.log)]],true,0,.rw⟩
@[simp] theorem rjO_inj {J K : JN} : rjO J = rjO K ↔ J = K := by
 constructor
 ·intro h
  obtain ⟨b,d,t,v,l⟩ := J
  obtain ⟨b',d',t',v',l'⟩ := K
  simp [rjO] at h
  simp [h]
  omega
 ·rintro rfl; rfl
@[simp] theorem rj_elems (J : JN) : (rjO J).elems = [[.tree false 117 2 [[.sl 2 1 (zaf J.b),.int .i64 J.d]] true 1,.int .i64 J.term,.int .i64 J.vote,.sl 2 10 (GLogged.row J.log)]] := rfl
@[simp] theorem rj_et (J : JN) : (rjO J).et = 79 := rfl
@[simp] theorem rj_es (J : JN) : (rjO J).es = 4 := rfl
@[simp] theorem rj_tight (J : JN) : (rjO J).tight = true := rfl
@[simp] theorem rj_md (J : JN) : (rjO J).md = .rw := rfl
@[simp] theorem rj_fl (J : JN) : (rjO J).fl = 0 := rfl
@[simp] theorem rj_fold (b : List UInt8) (d : Nat) (t v : Int) (l : List GLogged) : (⟨79,4,[[.tree false 117 2 [[.sl 2 1 (zaf b),.int .i64 d]] true 1,.int .i64 t,.int .i64 v,.sl 2 10 (GLogged.row l)]],true,0,.rw⟩ : AObj) = rjO ⟨b,d,t,v,l⟩ := rfl
@[simp] theorem rj_foldn (b : List UInt8) (d : Nat) (t v : Int) : (⟨79,4,[[.tree false 117 2 [[.sl 2 1 (zaf b),.int .i64 d]] true 1,.int .i64 t,.int .i64 v,.sl 2 10 []]],true,0,.rw⟩ : AObj) = rjO ⟨b,d,t,v,[]⟩ := rfl
@[simp] theorem rj_foldz (t v : Int) : (⟨79,4,[[.tree false 117 2 [[.sl 2 1 [],.int .i64 0]] true 1,.int .i64 t,.int .i64 v,.sl 2 10 []]],true,0,.rw⟩ : AObj) = rjO ⟨[],0,t,v,[]⟩ := rfl
@[simp] theorem zuP (J : JN) : nameless (rjO J) = true := by simp [nameless]
@[simp] theorem rj_names (J : JN) (f : Nat → Nat) : (rjO J).ren f = rjO J := AObj.ren_nl (zuP J)
@[simp] theorem rj_within (J : JN) (D : Nat → Bool) : (rjO J).within D = true := by simp
@[simp] theorem rj_scalar (J : JN) : zbA (rjO J) = false := by simp [zbA]
@[simp] theorem zq4 (l : List GLogged) {i : Int} (h : i < 0) : logAt l i = ⟨0,⟨0,0,0,0,0,0,0,0,0⟩⟩ := by unfold logAt; rw [if_neg (by omega)]
@[simp] theorem logAt_ge (l : List GLogged) {i : Int} (h : (l.length : Int) ≤ i) : logAt l i = ⟨0,⟨0,0,0,0,0,0,0,0,0⟩⟩ := by unfold logAt; rw [if_neg (by omega)]
theorem zbJ {l : List GLogged} {k : Nat} {x : GLogged} (h : l[k]? = some x) : logAt l (k : Int) = x := by
 have hlt := (List.getElem?_eq_some_iff.1 h).1
 unfold logAt
 rw [if_pos (by omega)]
 simp [h]
def hasAt (l : List GLogged) (i : Int) : Bool := decide (0 ≤ i ∧ i < l.length)
def recA (t v : Int) : List UInt8 := enc (code 1) ++ enc (code t) ++ enc (code v)
def recE (t : Int) (e : GEntry) : List UInt8 := enc (code 2) ++ enc (code t) ++ zca e
def recC (n : Int) : List UInt8 := enc (code 3) ++ enc (code n)
noncomputable def putJ (J : JN) (p : List UInt8) : JN := { J with b := J.b ++ putB 8 [] p }
@[simp] theorem putJ_d (J : JN) (p : List UInt8) : (putJ J p).d = J.d := rfl
@[simp] theorem putJ_log (J : JN) (p : List UInt8) : (putJ J p).log = J.log := rfl
theorem in8 : In64 8 := by unfold In64; omega
theorem znM {key : Int} {p : List UInt8} (h : p.length ≤ 65536) : (putB key [] p).length ≤ 65600 := by
 unfold putB
 rw [if_neg (by omega),List.nil_append,zqk]
 have := zeR (code p.length) (zdk (by unfold In64; omega))
 simp only [List.length_append,zlA]
 omega
theorem enc3 {n : Int} (h : In64 n) : (enc (code n)).length ≤ 10 := zeR _ (zdk h)
theorem in2 : In64 2 := by unfold In64; omega
theorem in3 : In64 3 := by unfold In64; omega
noncomputable def zaq (J : JN) (t v : Int) : JN := if stE J t v = 0 then putJ (stJ J t v) (recA t v) else J
noncomputable def zaQ (J : JN) (t : Int) (e : GEntry) : JN := if adE J t e = 0 then putJ (adJ J t e) (recE t e) else J
noncomputable def cutJ (J : JN) (n : Int) : JN := if cuE J n = 0 then putJ (cuJ J n) (recC n) else J
theorem stJ_b (J : JN) (t v : Int) : (stJ J t v).b = J.b := by unfold stJ; split <;> rfl
theorem adJ_b (J : JN) (t : Int) (e : GEntry) : (adJ J t e).b = J.b := by unfold adJ; split <;> rfl
theorem cuJ_b (J : JN) (n : Int) : (cuJ J n).b = J.b := by unfold cuJ; split <;> rfl
end Go.Proofs.YtcpdgbncekdicaaGreat

namespace Go.Proofs.YtcpdgbncekdicaaGreat
open Go.Lift
noncomputable def recordJ (J : JN) (p : List UInt8) : JN × Bool :=
 if (takeT p).2.2 ≠ 0 then (J,false) else
 if (takeT (p.drop (takeT p).2.1.toNat)).2.2 ≠ 0 then (J,false) else
 if (takeT p).1 = 1 then
  (if (takeT (p.drop ((takeT p).2.1 + (takeT (p.drop (takeT p).2.1.toNat)).2.1).toNat)).2.2 = 0 ∧ (takeT p).2.1 + (takeT (p.drop (takeT p).2.1.toNat)).2.1 + (takeT (p.drop ((takeT p).2.1 + (takeT (p.drop (takeT p).2.1.toNat)).2.1).toNat)).2.1 = p.length then
   (stJ J (takeT (p.drop (takeT p).2.1.toNat)).1 (takeT (p.drop ((takeT p).2.1 + (takeT (p.drop (takeT p).2.1.toNat)).2.1).toNat)).1,decide (stE J (takeT (p.drop (takeT p).2.1.toNat)).1 (takeT (p.drop ((takeT p).2.1 + (takeT (p.drop (takeT p).2.1.toNat)).2.1).toNat)).1 = 0))
  else (J,false))
 else if (takeT p).1 = 2 then
  (if (readE (p.drop ((takeT p).2.1 + (takeT (p.drop (takeT p).2.1.toNat)).2.1).toNat)).2.2 = 0 ∧ (takeT p).2.1 + (takeT (p.drop (takeT p).2.1.toNat)).2.1 + (readE (p.drop ((takeT p).2.1 + (takeT (p.drop (takeT p).2.1.toNat)).2.1).toNat)).2.1 = p.length then
   (adJ J (takeT (p.drop (takeT p).2.1.toNat)).1 (readE (p.drop ((takeT p).2.1 + (takeT (p.drop (takeT p).2.1.toNat)).2.1).toNat)).1,decide (adE J (takeT (p.drop (takeT p).2.1.toNat)).1 (readE (p.drop ((takeT p).2.1 + (takeT (p.drop (takeT p).2.1.toNat)).2.1).toNat)).1 = 0))
  else (J,false))
 else if (takeT p).1 = 3 then
  (if (takeT p).2.1 + (takeT (p.drop (takeT p).2.1.toNat)).2.1 = p.length then (cuJ J (takeT (p.drop (takeT p).2.1.toNat)).1,decide (cuE J (takeT (p.drop (takeT p).2.1.toNat)).1 = 0)) else (J,false))
 else (J,false)
@[simp] theorem take_drop_all {α : Type} (l : List α) (n : Nat) : (l.drop n).take (l.length - n) = l.drop n := List.take_of_length_le (by simp)
theorem ztt {l : List UInt8} {n k : Int} (h : takeT l = (n,k,0)) : ∃ q : Nat,k = q ∧ 1 ≤ q ∧ q ≤ l.length := by
 obtain ⟨_,rest,h1,h2⟩ := zev h
 refine ⟨_,h2,zhg _,?_⟩
 rw [h1]; simp
theorem zcg (l : List UInt8) : (∃ e,¬ e = 0 ∧ takeT l = (0,0,e)) ∨ ∃ (n : Int) (q : Nat),takeT l = (n,(q : Int),0) ∧ 1 ≤ q ∧ q ≤ l.length := by
 rcases zq2 l with h | h | ⟨n,k,h⟩
 ·exact .inl ⟨17,by decide,h⟩
 ·exact .inl ⟨18,by decide,h⟩
 ·obtain ⟨q,rfl,h1,h2⟩ := ztt h
  exact .inr ⟨n,q,h,h1,h2⟩
noncomputable def zdn : List (List UInt8) → JN → Nat → JN × Nat
 | [],J,n => (J,n)
 | p :: ps,J,n => if (recordJ J p).2 = true then zdn ps (recordJ J p).1 (n + (putB 8 [] p).length) else ((recordJ J p).1,n)
def zrd (b : List UInt8) (d n : Nat) : List UInt8 × Nat := if b.length < n then (b,d) else (b.take n,min d n)
noncomputable def readJ (b : List UInt8) (d : Nat) : JN :=
 { (zdn (allT 8 b).1 ⟨b,d,0,-1,[]⟩ 0).1 with b := (zrd b d (zdn (allT 8 b).1 ⟨b,d,0,-1,[]⟩ 0).2).1,d := (zrd b d (zdn (allT 8 b).1 ⟨b,d,0,-1,[]⟩ 0).2).2 }
noncomputable def znD (J : JN) (keep : Int) : JN := readJ (J.b.take (zcW J.b.length J.d keep)) (zcW J.b.length J.d keep)
theorem zkn (J : JN) (p : List UInt8) : (recordJ J p).1.b = J.b ∧ (recordJ J p).1.d = J.d := by
 unfold recordJ stJ adJ cuJ
 repeat' split
 all_goals exact ⟨rfl,rfl⟩
theorem zmV (J : JN) (p : List UInt8) : (recordJ J p).1.log.length ≤ J.log.length + 1 := by
 unfold recordJ stJ adJ cuJ
 repeat' split
 all_goals simp <;> omega
theorem ztR (p : List UInt8) : (putB 8 [] p).length ≤ 65600 := by
 by_cases h : p.length ≤ 65536
 ·exact znM h
 ·unfold putB; rw [if_pos (by omega)]; simp
end Go.Proofs.YtcpdgbncekdicaaGreat

namespace Go.Proofs.YtcpdgbncekdicaaGreat
open Go.Lift
def setD (J : JN) (b : List UInt8) (d : Nat) : JN := { J with b := b,d := d }
@[simp] theorem setD_b (J : JN) (b : List UInt8) (d : Nat) : (setD J b d).b = b := rfl
@[simp] theorem setD_d (J : JN) (b : List UInt8) (d : Nat) : (setD J b d).d = d := rfl
@[simp] theorem setD_term (J : JN) (b : List UInt8) (d : Nat) : (setD J b d).term = J.term := rfl
@[simp] theorem setD_vote (J : JN) (b : List UInt8) (d : Nat) : (setD J b d).vote = J.vote := rfl
@[simp] theorem zsq (J : JN) (b : List UInt8) (d : Nat) : (setD J b d).log = J.log := rfl
@[simp] theorem zqW (J : JN) (b c : List UInt8) (d e : Nat) : setD (setD J b d) c e = setD J c e := rfl
theorem ztH (J : JN) (b : List UInt8) (d : Nat) (t v : Int) : stJ (setD J b d) t v = setD (stJ J t v) b d := by
 unfold stJ
 rw [show stE (setD J b d) t v = stE J t v from rfl]
 split <;> rfl
theorem zt1 (J : JN) (b : List UInt8) (d : Nat) (t : Int) (e : GEntry) : adJ (setD J b d) t e = setD (adJ J t e) b d := by
 unfold adJ
 rw [show adE (setD J b d) t e = adE J t e from rfl]
 split <;> rfl
theorem zsM (J : JN) (b : List UInt8) (d : Nat) (n : Int) : cuJ (setD J b d) n = setD (cuJ J n) b d := by
 unfold cuJ
 rw [show cuE (setD J b d) n = cuE J n from rfl]
 split <;> rfl
theorem zlu (J : JN) (b : List UInt8) (d : Nat) (p : List UInt8) : recordJ (setD J b d) p = (setD (recordJ J p).1 b d,(recordJ J p).2) := by
 unfold recordJ
 rw [ztH,zt1,zsM]
 repeat' split
 all_goals rfl
noncomputable def finR (rs : List (List UInt8)) (J : JN) : JN := rs.foldl (fun J p => (recordJ J p).1) J
noncomputable def AllR : List (List UInt8) → JN → Prop
 | [],_ => True
 | p :: ps,J => (recordJ J p).2 = true ∧ AllR ps (recordJ J p).1
theorem zmd (a b : List (List UInt8)) (J : JN) : finR (a ++ b) J = finR b (finR a J) := by simp [finR]
theorem ztW (p : List UInt8) (J : JN) : finR [p] J = (recordJ J p).1 := rfl
theorem zhz : ∀ (a b : List (List UInt8)) (J : JN),AllR (a ++ b) J ↔ AllR a J ∧ AllR b (finR a J)
 | [],b,J => by simp [AllR,finR]
 | p :: a,b,J => by
  have := zhz a b (recordJ J p).1
  simp only [List.cons_append,AllR,this,and_assoc]
  rfl
theorem zjd {p : List UInt8} (h : p.length ≤ 65536) : putB 8 [] p = frB 8 p := by unfold putB; rw [if_neg (by omega),List.nil_append]
def zeroJ : JN := ⟨[],0,0,-1,[]⟩
structure Hist (J : JN) (rs : List (List UInt8)) (s : Nat) : Prop where
 small : ∀ p ∈ rs,p.length ≤ 65536
 all : AllR rs zeroJ
 eq : J = setD (finR rs zeroJ) (zcS 8 rs) (zcS 8 (rs.take s)).length
 le : s ≤ rs.length
theorem Hist.zero : Hist zeroJ [] 0 := ⟨by simp,trivial,rfl,Nat.le_refl _⟩
end Go.Proofs.YtcpdgbncekdicaaGreat

namespace Go.Proofs.YtcpdgbncekdicaaGreat
open Go.Lift
theorem zlc {t v : Int} (h1 : In64 t) (h2 : In64 v) (J : JN) : recordJ J (recA t v) = (stJ J t v,decide (stE J t v = 0)) := by
 have e1 : takeT (recA t v) = (1,((enc (code 1)).length : Int),0) := by unfold recA; rw [List.append_assoc]; exact zcB in1 _
 have e2 : takeT ((recA t v).drop (enc (code 1)).length) = (t,((enc (code t)).length : Int),0) := by
  unfold recA; rw [List.append_assoc,List.drop_left]; exact zcB h1 _
 have e3 : takeT ((recA t v).drop ((enc (code 1)).length + (enc (code t)).length)) = (v,((enc (code v)).length : Int),0) := by
  unfold recA
  rw [← List.length_append,List.drop_left,← List.append_nil (enc (code v))]
  rw [zcB h2]; simp
 have e4 : ((recA t v).length : Int) = ((enc (code 1)).length : Int) + ((enc (code t)).length : Int) + ((enc (code v)).length : Int) := by
  unfold recA; simp only [List.length_append]; omega
 have k : (((enc (code 1)).length : Int) + ((enc (code t)).length : Int)).toNat = (enc (code 1)).length + (enc (code t)).length := by omega
 unfold recordJ
 simp only [e1,Int.toNat_natCast,e2,k,e3,e4]
 simp
theorem zk9 {t : Int} {e : GEntry} (h1 : In64 t) (h2 : GEntry.ok e) (hs : zbj e = true) (J : JN) : recordJ J (recE t e) = (adJ J t e,decide (adE J t e = 0)) := by
 have e1 : takeT (recE t e) = (2,((enc (code 2)).length : Int),0) := by unfold recE; rw [List.append_assoc]; exact zcB in2 _
 have e2 : takeT ((recE t e).drop (enc (code 2)).length) = (t,((enc (code t)).length : Int),0) := by
  unfold recE; rw [List.append_assoc,List.drop_left]; exact zcB h1 _
 have e3 : readE ((recE t e).drop ((enc (code 2)).length + (enc (code t)).length)) = (e,((zca e).length : Int),0) := by
  unfold recE
  rw [← List.length_append,List.drop_left,← List.append_nil (zca e),zmj h2,if_pos hs]
  simp
 have e4 : ((recE t e).length : Int) = ((enc (code 2)).length : Int) + ((enc (code t)).length : Int) + ((zca e).length : Int) := by
  unfold recE; simp only [List.length_append]; omega
 have k : (((enc (code 2)).length : Int) + ((enc (code t)).length : Int)).toNat = (enc (code 2)).length + (enc (code t)).length := by omega
 unfold recordJ
 simp only [e1,Int.toNat_natCast,e2,k,e3,e4]
 simp
theorem zq0 {n : Int} (h1 : In64 n) (J : JN) : recordJ J (recC n) = (cuJ J n,decide (cuE J n = 0)) := by
 have e1 : takeT (recC n) = (3,((enc (code 3)).length : Int),0) := by unfold recC; exact zcB in3 _
 have e2 : takeT ((recC n).drop (enc (code 3)).length) = (n,((enc (code n)).length : Int),0) := by
  unfold recC; rw [List.drop_left,← List.append_nil (enc (code n)),zcB h1]; simp
 have e4 : ((recC n).length : Int) = ((enc (code 3)).length : Int) + ((enc (code n)).length : Int) := by
  unfold recC; simp only [List.length_append]; omega
 unfold recordJ
 simp only [e1,Int.toNat_natCast,e2,e4]
 simp
theorem zta {t v : Int} (h1 : In64 t) (h2 : In64 v) : (recA t v).length ≤ 30 := by
 have := enc3 in1; have := enc3 h1; have := enc3 h2
 unfold recA; simp only [List.length_append]; omega
theorem ztv {t : Int} {e : GEntry} (h1 : In64 t) (h2 : GEntry.ok e) : (recE t e).length ≤ 110 := by
 have := enc3 in2; have := enc3 h1; have := zfM h2
 unfold recE; simp only [List.length_append]; omega
theorem ztJ {n : Int} (h1 : In64 n) : (recC n).length ≤ 20 := by
 have := enc3 in3; have := enc3 h1
 unfold recC; simp only [List.length_append]; omega
theorem Hist.put {J : JN} {rs : List (List UInt8)} {s : Nat} (h : Hist J rs s) {p : List UInt8} (hp : p.length ≤ 65536) (hr : (recordJ J p).2 = true) : Hist (putJ (recordJ J p).1 p) (rs ++ [p]) s := by
 have he := h.eq
 have hrec : recordJ J p = (setD (recordJ (finR rs zeroJ) p).1 J.b J.d,(recordJ (finR rs zeroJ) p).2) := by
  conv => lhs; rw [he]
  rw [zlu,he]; rfl
 have eb : J.b = zcS 8 rs := by rw [he]; rfl
 have ed : J.d = (zcS 8 (rs.take s)).length := by rw [he]; rfl
 refine ⟨fun q hq => ?_,?_,?_,by simp; have := h.le; omega⟩
 ·rcases List.mem_append.1 hq with h1 | h1
  ·exact h.small q h1
  ·simp at h1; subst h1; exact hp
 ·rw [zhz]
  refine ⟨h.all,?_,trivial⟩
  rw [hrec] at hr; exact hr
 ·rw [zmd,ztW,zir,List.take_append_of_le_length h.le,hrec]
  have e1 : zcS 8 [p] = frB 8 p := by simp [zcS]
  unfold putJ setD
  rw [e1,zjd hp,eb,ed]
theorem Hist.setTerm {J : JN} {rs : List (List UInt8)} {s : Nat} (h : Hist J rs s) {t v : Int} (h1 : In64 t) (h2 : In64 v) : Hist (zaq J t v) (if stE J t v = 0 then rs ++ [recA t v] else rs) s := by
 unfold zaq
 split
 ·next h0 =>
  have hb := zlc h1 h2 J
  have := h.put (p := recA t v) (by have := zta h1 h2; omega) (by rw [hb]; simp [h0])
  rw [hb] at this; exact this
 ·exact h
theorem zk5 {J : JN} {t : Int} {e : GEntry} (h : adE J t e = 0) : zbj e = true := by
 cases hs : zbj e with
 | true => rfl
 | false => unfold adE at h; rw [if_pos (.inr (.inr hs))] at h; omega
theorem Hist.append {J : JN} {rs : List (List UInt8)} {s : Nat} (h : Hist J rs s) {t : Int} {e : GEntry} (h1 : In64 t) (h2 : GEntry.ok e) : Hist (zaQ J t e) (if adE J t e = 0 then rs ++ [recE t e] else rs) s := by
 unfold zaQ
 split
 ·next h0 =>
  have hb := zk9 h1 h2 (zk5 h0) J
  have := h.put (p := recE t e) (by have := ztv h1 h2; omega) (by rw [hb]; simp [h0])
  rw [hb] at this; exact this
 ·exact h
theorem Hist.cut {J : JN} {rs : List (List UInt8)} {s : Nat} (h : Hist J rs s) {n : Int} (h1 : In64 n) : Hist (cutJ J n) (if cuE J n = 0 then rs ++ [recC n] else rs) s := by
 unfold cutJ
 split
 ·next h0 =>
  have hb := zq0 h1 J
  have := h.put (p := recC n) (by have := ztJ h1; omega) (by rw [hb]; simp [h0])
  rw [hb] at this; exact this
 ·exact h
def syncJ (J : JN) : JN := setD J J.b J.b.length
theorem Hist.sync {J : JN} {rs : List (List UInt8)} {s : Nat} (h : Hist J rs s) : Hist (syncJ J) rs rs.length := by
 refine ⟨h.small,h.all,?_,Nat.le_refl _⟩
 have eb : J.b = zcS 8 rs := by rw [h.eq]; rfl
 unfold syncJ
 rw [List.take_length,eb]
 conv => lhs; rw [h.eq,zqW]
theorem zns : ∀ (es : List GEntry) (J : JN),1 ≤ J.term → J.term ≤ 1073741824 → (∀ x ∈ J.log,x.Term = J.term) → J.log.length + es.length ≤ 4096 → (∀ e ∈ es,GEntry.ok e ∧ zbj e = true) →
 AllR (es.map (recE J.term)) J ∧ finR (es.map (recE J.term)) J = { J with log := J.log ++ es.map (fun e => ⟨J.term,e⟩) }
 | [],J,_,_,_,_,_ => by simp [AllR,finR]
 | e :: es,J,h1,h2,h3,h4,h5 => by
  have ⟨ho,hs⟩ := h5 e (List.mem_cons_self ..)
  simp only [List.length_cons] at h4
  have hl : lastT J.log ≤ J.term := by
   unfold lastT logAt
   split
   ·next hc =>
    have : (J.log.length : Int) - 1 = ((J.log.length - 1 : Nat) : Int) := by omega
    rw [this,Int.toNat_natCast,List.getD_eq_getElem?_getD,List.getElem?_eq_getElem (by omega),Option.getD_some]
    rw [h3 _ (List.getElem_mem _)]; exact Int.le_refl _
   ·simp; omega
  have h0 : adE J J.term e = 0 := by
   unfold adE
   rw [if_neg (by rw [hs]; simp; omega),if_neg (by omega),if_neg (by omega)]
  have hb := zk9 (show In64 J.term by unfold In64; omega) ho hs J
  have hadJ : adJ J J.term e = { J with log := J.log ++ [⟨J.term,e⟩] } := by unfold adJ; rw [if_pos h0]
  have ih := zns es (adJ J J.term e) (by rw [hadJ]; exact h1) (by rw [hadJ]; exact h2) (by rw [hadJ]; intro x hx; rcases List.mem_append.1 hx with h | h; exact h3 x h; simp at h; rw [h]) (by rw [hadJ]; simp; omega) (fun x hx => h5 x (List.mem_cons_of_mem _ hx))
  have ht : (adJ J J.term e).term = J.term := by rw [hadJ]
  rw [ht] at ih
  refine ⟨?_,?_⟩
  ·rw [List.map_cons]
   refine ⟨by rw [hb]; simp [h0],?_⟩
   rw [hb]; exact ih.1
  ·rw [List.map_cons]
   show finR _ (recordJ J (recE J.term e)).1 = _
   rw [hb,ih.2,hadJ]
   simp
end Go.Proofs.YtcpdgbncekdicaaGreat

namespace Go.Proofs.YtcpdgbncekdicaaGreat
open Go.Lift
theorem zp3 {es : List GEntry} (h : ∀ e ∈ es,GEntry.ok e ∧ zbj e = true) (hl : es.length ≤ 4096) : finR (recA 1 0 :: es.map (recE 1)) zeroJ = ⟨[],0,1,0,es.map (fun e => ⟨1,e⟩)⟩ ∧ AllR (recA 1 0 :: es.map (recE 1)) zeroJ := by
 have i1 : In64 1 := in1
 have i0 : In64 0 := by unfold In64; omega
 have hb := zlc i1 i0 zeroJ
 have hs0 : stE zeroJ 1 0 = 0 := by simp [stE,zeroJ]
 have hst : stJ zeroJ 1 0 = ⟨[],0,1,0,[]⟩ := by unfold stJ; rw [if_pos hs0]; rfl
 have g := zns es ⟨[],0,1,0,[]⟩ (by simp) (by simp) (by simp) (by simpa using hl) h
 refine ⟨?_,?_⟩
 ·show finR _ (recordJ zeroJ (recA 1 0)).1 = _
  rw [hb,hst,g.2]; simp
 ·refine ⟨by rw [hb]; simp [hs0],?_⟩
  rw [hb,hst]; exact g.1
theorem grown_zero : Hist (zaq zeroJ 1 0) [recA 1 0] 0 := by
 have := Hist.zero.setTerm (t := 1) (v := 0) in1 (by unfold In64; omega)
 have hs0 : stE zeroJ 1 0 = 0 := by simp [stE,zeroJ]
 rw [if_pos hs0] at this
 exact this
structure Grown (J : JN) (es : List GEntry) (s : Nat) : Prop where
 hist : Hist J (recA 1 0 :: es.map (recE 1)) (s + 1)
 ok : ∀ e ∈ es,GEntry.ok e ∧ zbj e = true
theorem Grown.zero : Grown (syncJ (zaq zeroJ 1 0)) [] 0 := ⟨by have := grown_zero.sync; simpa using this,by simp⟩
theorem Grown.le {J : JN} {es : List GEntry} {s : Nat} (h : Grown J es s) : s ≤ es.length := by have := h.hist.le; simp at this; omega
theorem Grown.is {J : JN} {es : List GEntry} {s : Nat} (h : Grown J es s) (hl : es.length ≤ 4096) : J.term = 1 ∧ J.vote = 0 ∧ J.log = es.map (fun e => ⟨1,e⟩) := by
 have g := (zp3 h.ok hl).1
 have e := h.hist.eq
 rw [g] at e
 rw [e]; exact ⟨rfl,rfl,rfl⟩
theorem Grown.sync {J : JN} {es : List GEntry} {s : Nat} (h : Grown J es s) : Grown (syncJ J) es es.length := ⟨by have := h.hist.sync; simpa using this,h.ok⟩
theorem zrF {l : List GLogged} {t : Int} (h : ∀ x ∈ l,x.Term = t) (h0 : 0 ≤ t) : lastT l ≤ t := by
 unfold lastT logAt
 split
 ·next hc =>
  have : (l.length : Int) - 1 = ((l.length - 1 : Nat) : Int) := by omega
  rw [this,Int.toNat_natCast,List.getD_eq_getElem?_getD,List.getElem?_eq_getElem (by omega),Option.getD_some]
  rw [h _ (List.getElem_mem _)]; exact Int.le_refl _
 ·exact h0
theorem Grown.adE {J : JN} {es : List GEntry} {s : Nat} (h : Grown J es s) (hl : es.length < 4096) {e : GEntry} (hs : zbj e = true) : adE J 1 e = 0 := by
 obtain ⟨h1,h2,h3⟩ := h.is (by omega)
 have := zrF (l := J.log) (t := 1) (by rw [h3]; intro x hx; obtain ⟨y,_,rfl⟩ := List.mem_map.1 hx; rfl) (by omega)
 unfold Go.Proofs.YtcpdgbncekdicaaGreat.adE
 rw [if_neg (by rw [hs]; simp),if_neg (by omega),if_neg (by rw [h3]; simp; omega)]
theorem Grown.append {J : JN} {es : List GEntry} {s : Nat} (h : Grown J es s) (hl : es.length < 4096) {e : GEntry} (ho : GEntry.ok e) (hs : zbj e = true) : Grown (zaQ J 1 e) (es ++ [e]) s := by
 have g := h.hist.append in1 ho
 rw [if_pos (h.adE hl hs)] at g
 refine ⟨by simpa using g,fun x hx => ?_⟩
 rcases List.mem_append.1 hx with h1 | h1
 ·exact h.ok x h1
 ·simp at h1; subst h1; exact ⟨ho,hs⟩
theorem zaJ (J : JN) (t v : Int) : (zaq J t v).term = if stE J t v = 0 then t else J.term := by
 unfold zaq
 by_cases h : stE J t v = 0
 ·rw [if_pos h,if_pos h]; unfold stJ; rw [if_pos h]; rfl
 ·rw [if_neg h,if_neg h]
theorem zbW (J : JN) (t v : Int) : (zaq J t v).vote = if stE J t v = 0 then v else J.vote := by
 unfold zaq
 by_cases h : stE J t v = 0
 ·rw [if_pos h,if_pos h]; unfold stJ; rw [if_pos h]; rfl
 ·rw [if_neg h,if_neg h]
theorem zaW (J : JN) (t v : Int) : (zaq J t v).log = J.log := by
 unfold zaq
 by_cases h : stE J t v = 0
 ·rw [if_pos h]; unfold stJ; rw [if_pos h]; rfl
 ·rw [if_neg h]
theorem zr7 {J : JN} {t v : Int} (h : stE J t v = 0) : 0 ≤ t ∧ t ≤ 1073741824 ∧ -1 ≤ v ∧ v < 5 ∧ J.term ≤ t ∧ (t = J.term → J.vote = -1 ∨ J.vote = v) := by
 unfold stE at h
 split at h
 ·omega
 ·split at h
  ·omega
  ·omega
structure NumJ (J : JN) : Prop where
 t0 : 0 ≤ J.term
 t1 : J.term ≤ 1073741824
 v0 : -1 ≤ J.vote
 v1 : J.vote < 5
theorem NumJ.zero : NumJ zeroJ := ⟨by simp [zeroJ],by simp [zeroJ],by simp [zeroJ],by simp [zeroJ]⟩
theorem NumJ.setTerm {J : JN} (h : NumJ J) (t v : Int) : NumJ (zaq J t v) := by
 by_cases h0 : stE J t v = 0
 ·have := zr7 h0
  refine ⟨?_,?_,?_,?_⟩ <;> simp only [zaJ,zbW,if_pos h0] <;> omega
 ·refine ⟨?_,?_,?_,?_⟩ <;> simp only [zaJ,zbW,if_neg h0]
  ·exact h.t0
  ·exact h.t1
  ·exact h.v0
  ·exact h.v1
structure OrdJ (J : JN) : Prop where
 low : ∀ x ∈ J.log,1 ≤ x.Term ∧ x.Term ≤ J.term ∧ zbj x.Entry = true
 asc : ∀ i,i + 1 < J.log.length → (logAt J.log i).Term ≤ (logAt J.log ((i : Int) + 1)).Term
theorem OrdJ.zero : OrdJ zeroJ := ⟨by simp [zeroJ],by simp [zeroJ]⟩
theorem OrdJ.setTerm {J : JN} (h : OrdJ J) (t v : Int) : OrdJ (zaq J t v) := by
 refine ⟨fun x hx => ?_,?_⟩
 ·rw [zaW] at hx
  have := h.low x hx
  rw [zaJ]
  split
  ·next h0 => have := zr7 h0; exact ⟨by omega,by omega,this.2.2.2.2.2 |> fun _ => (h.low x hx).2.2⟩
  ·exact this
 ·rw [zaW]; exact h.asc
theorem zhv {l : List GLogged} {x : GLogged} {i : Int} (h : i < l.length) : logAt (l ++ [x]) i = logAt l i := by
 unfold logAt
 by_cases h0 : 0 ≤ i
 ·rw [if_pos ⟨h0,by simp; omega⟩,if_pos ⟨h0,h⟩,List.getD_eq_getElem?_getD,List.getD_eq_getElem?_getD,List.getElem?_append_left (by omega)]
 ·rw [if_neg (by omega),if_neg (by omega)]
theorem zoK {l : List GLogged} {x : GLogged} : logAt (l ++ [x]) l.length = x := by
 unfold logAt
 rw [if_pos ⟨by omega,by simp; omega⟩,Int.toNat_natCast,List.getD_eq_getElem?_getD,List.getElem?_append_right (Nat.le_refl _)]
 simp
theorem zbo (J : JN) (t : Int) (e : GEntry) : (zaQ J t e).term = J.term := by
 unfold zaQ adJ
 repeat' split
 all_goals rfl
theorem zde (J : JN) (t : Int) (e : GEntry) : (zaQ J t e).vote = J.vote := by
 unfold zaQ adJ
 repeat' split
 all_goals rfl
theorem zbt (J : JN) (t : Int) (e : GEntry) : (zaQ J t e).log = if adE J t e = 0 then J.log ++ [⟨t,e⟩] else J.log := by
 unfold zaQ
 by_cases h : Go.Proofs.YtcpdgbncekdicaaGreat.adE J t e = 0
 ·rw [if_pos h,if_pos h]; unfold adJ; rw [if_pos h]; rfl
 ·rw [if_neg h,if_neg h]
theorem zt5 {J : JN} {t : Int} {e : GEntry} (h : adE J t e = 0) : 1 ≤ t ∧ t ≤ J.term ∧ lastT J.log ≤ t ∧ J.log.length < 4096 ∧ zbj e = true := by
 have hs := zk5 h
 unfold adE at h
 rw [hs] at h
 split at h
 ·omega
 ·split at h
  ·omega
  ·split at h
   ·omega
   ·refine ⟨by simp at *; omega,by omega,by omega,by omega,hs⟩
theorem OrdJ.append {J : JN} (h : OrdJ J) (t : Int) (e : GEntry) : OrdJ (zaQ J t e) := by
 by_cases h0 : adE J t e = 0
 ·obtain ⟨a1,a2,a3,a4,a5⟩ := zt5 h0
  refine ⟨fun x hx => ?_,fun i hi => ?_⟩
  ·rw [zbt,if_pos h0] at hx
   rw [zbo]
   rcases List.mem_append.1 hx with h1 | h1
   ·exact h.low x h1
   ·simp at h1; subst h1; exact ⟨a1,a2,a5⟩
  ·rw [zbt,if_pos h0] at hi ⊢
   simp only [List.length_append,List.length_cons,List.length_nil] at hi
   by_cases hj : i + 1 < J.log.length
   ·rw [zhv (by omega),zhv (by omega)]; exact h.asc i hj
   ·have e1 : (i : Int) + 1 = (J.log.length : Int) := by omega
    rw [zhv (by omega),e1,zoK]
    have e2 : (i : Int) = (J.log.length : Int) - 1 := by omega
    rw [e2]; exact a3
 ·refine ⟨fun x hx => ?_,?_⟩
  ·rw [zbt,if_neg h0] at hx; rw [zbo]; exact h.low x hx
  ·rw [zbt,if_neg h0]; exact h.asc
end Go.Proofs.YtcpdgbncekdicaaGreat

namespace Go.Proofs.YtcpdgbncekdicaaGreat
open Go.Lift
section
variable (g : Nat → Option AObj)
@[simp] theorem startV_sl (a b : Nat) (r : List (List V)) : zbX g (.sl a b r) = [] := rfl
@[simp] theorem startV_int (k : IntKind) (n : Int) : zbX g (.int k n) = [] := rfl
@[simp] theorem startV_bool (b : Bool) : zbX g (.bool b) = [] := rfl
@[simp] theorem startV_str (b : ByteArray) : zbX g (.str b) = [] := rfl
@[simp] theorem startV_pnil : zbX g .pnil = [] := rfl
@[simp] theorem startV_pp (r : List V) : zbX g (.pp r) = [] := rfl
@[simp] theorem startV_fn (f : FuncId) : zbX g (.fn f) = [] := rfl
@[simp] theorem startV_clo (f : FuncId) (r : List V) : zbX g (.clo f r) = [] := rfl
@[simp] theorem startV_anyB : zbX g .anyB = [] := rfl
@[simp] theorem startN_sl (a b : Nat) (r : List (List V)) : zbv g (.sl a b r) = [] := rfl
@[simp] theorem startN_int (k : IntKind) (n : Int) : zbv g (.int k n) = [] := rfl
@[simp] theorem startN_bool (b : Bool) : zbv g (.bool b) = [] := rfl
@[simp] theorem startN_str (b : ByteArray) : zbv g (.str b) = [] := rfl
@[simp] theorem startN_pnil : zbv g .pnil = [] := rfl
@[simp] theorem startN_pp (r : List V) : zbv g (.pp r) = [] := rfl
@[simp] theorem startN_fn (f : FuncId) : zbv g (.fn f) = [] := rfl
@[simp] theorem startN_anyB : zbv g .anyB = [] := rfl
@[simp] theorem startN_ptr (a b c : Nat) : zbv g (.ptr a b c) = [a] := rfl
@[simp] theorem startN_own (a b c : Nat) : zbv g (.own a b c) = zny a (g a) := zjb g a b c
@[simp] theorem zoi (cs : List V) : zbv g (.agg cs) = cs.flatMap (zbX g) := rfl
theorem zc8 {v : V} (h : Folded v) : zbv g v = [] := by
 obtain ⟨cs,rfl,hc⟩ := h
 simp only [zoi,List.flatMap_eq_nil_iff]
 intro c hm
 obtain ⟨j,hj⟩ := List.getElem?_of_mem hm
 exact zgo g c (V.closedAll_get hc j c hj)
@[simp] theorem vEntry_start (x : GEntry) : zbv g (zaD x) = [] := zc8 g (za7 x)
@[simp] theorem vLogged_start (x : GLogged) : zbv g (zaM x) = [] := zc8 g (za1 x)
@[simp] theorem vMessage_start (x : GMessage) : zbv g (zat x) = [] := zc8 g (zaU x)
end
def jnO (J : JN) : AObj := ⟨99,4,[[.int .i64 J.term,.int .i64 J.vote,.tree true 56 10 (GLogged.row J.log) false 2,.tree false 115 2 [[.tree true 5 1 (zaf J.b) false 2,.int .i64 J.d]] true 0]],true,0,.rw⟩
@[simp] theorem jnO_inj {J K : JN} : jnO J = jnO K ↔ J = K := by
 constructor
 ·intro h
  obtain ⟨b,d,t,v,l⟩ := J
  obtain ⟨b',d',t',v',l'⟩ := K
  simp [jnO] at h
  simp [h]
  omega
 ·rintro rfl; rfl
@[simp] theorem jn_elems (J : JN) : (jnO J).elems = [[.int .i64 J.term,.int .i64 J.vote,.tree true 56 10 (GLogged.row J.log) false 2,.tree false 115 2 [[.tree true 5 1 (zaf J.b) false 2,.int .i64 J.d]] true 0]] := rfl
@[simp] theorem jn_et (J : JN) : (jnO J).et = 99 := rfl
@[simp] theorem jn_es (J : JN) : (jnO J).es = 4 := rfl
@[simp] theorem jn_tight (J : JN) : (jnO J).tight = true := rfl
@[simp] theorem jn_md (J : JN) : (jnO J).md = .rw := rfl
@[simp] theorem jn_fl (J : JN) : (jnO J).fl = 0 := rfl
@[simp] theorem jn_fold (b : List UInt8) (d : Nat) (t v : Int) (l : List GLogged) : (⟨99,4,[[.int .i64 t,.int .i64 v,.tree true 56 10 (GLogged.row l) false 2,.tree false 115 2 [[.tree true 5 1 (zaf b) false 2,.int .i64 d]] true 0]],true,0,.rw⟩ : AObj) = jnO ⟨b,d,t,v,l⟩ := rfl
@[simp] theorem jn_foldn (b : List UInt8) (d : Nat) (t v : Int) : (⟨99,4,[[.int .i64 t,.int .i64 v,.tree true 56 10 [] false 2,.tree false 115 2 [[.tree true 5 1 (zaf b) false 2,.int .i64 d]] true 0]],true,0,.rw⟩ : AObj) = jnO ⟨b,d,t,v,[]⟩ := rfl
@[simp] theorem jn_foldz (t v : Int) : (⟨99,4,[[.int .i64 t,.int .i64 v,.tree true 56 10 [] false 2,.tree false 115 2 [[.tree true 5 1 [] false 2,.int .i64 0]] true 0]],true,0,.rw⟩ : AObj) = jnO ⟨[],0,t,v,[]⟩ := rfl
@[simp] theorem jn_foldd (b : List UInt8) (d : Nat) (t v : Int) (l : List GLogged) : (⟨99,4,[[.int .i64 t,.int .i64 v,.tree true 56 10 (GLogged.row l) false 2,(diskO b d).toTree false]],true,0,.rw⟩ : AObj) = jnO ⟨b,d,t,v,l⟩ := rfl
@[simp] theorem zvc (J : JN) : nameless (jnO J) = true := by simp [nameless]
@[simp] theorem jn_names (J : JN) (f : Nat → Nat) : (jnO J).ren f = jnO J := AObj.ren_nl (zvc J)
@[simp] theorem jn_within (J : JN) (D : Nat → Bool) : (jnO J).within D = true := by simp
@[simp] theorem jn_scalar (J : JN) : zbA (jnO J) = true := by simp [zbA]
structure GRec where
 k : Int
 t : Int
 n : Int
 e : GEntry
def GRec.cells (r : GRec) : List V := [.int .i64 r.k,.int .i64 r.t,.int .i64 r.n,.int .i64 r.e.Kind,.int .i64 r.e.Tick,.int .i64 r.e.Tenant,.int .i64 r.e.Cell,.int .i64 r.e.Other,.int .i64 r.e.Epoch,.int .i64 r.e.From,.int .i64 r.e.Until,.int .i64 r.e.N]
theorem GRec.cells_inj {x y : GRec} (h : x.cells = y.cells) : x = y := by
 obtain ⟨_,_,_,⟨_,_,_,_,_,_,_,_,_⟩⟩ := x
 obtain ⟨_,_,_,⟨_,_,_,_,_,_,_,_,_⟩⟩ := y
 simp [GRec.cells] at h
 simp [h]
def vRec (x : GRec) : V := .agg x.cells
theorem zbu (x : GRec) : Folded (vRec x) := ⟨x.cells,rfl,by simp [GRec.cells,V.closed,V.closed.closedAll]⟩
@[simp] theorem vRec_eq {x y : GRec} : vRec x = vRec y ↔ x = y := ⟨fun h => by simp only [vRec,V.agg.injEq] at h; exact GRec.cells_inj h,fun h => by rw [h]⟩
@[simp] theorem vRec_closed (x : GRec) : (vRec x).closed = true := (zbu x).closed
@[simp] theorem vRec_ren (x : GRec) (f : Nat → Nat) : (vRec x).ren f = vRec x := (zbu x).ren f
@[simp] theorem vRec_within (x : GRec) (D : Nat → Bool) : (vRec x).within D = true := (zbu x).within D
@[simp] theorem vRec_argV (x : GRec) (g : Nat → Option AObj) (refs : List Nat) : argV g refs (vRec x) = some (vRec x,[]) := (zbu x).argV refs
@[simp] theorem vRec_names (x : GRec) : zaO (vRec x) = [] := (zbu x).names
@[simp] theorem vRec_deep (x : GRec) (g : Nat → Option AObj) : argNm g (vRec x) = [] := (zbu x).deep
@[simp] theorem vRec_ptr (x : GRec) (r : List V) : zaZ (vRec x :: r) = zaZ r := (zbu x).ptr r
@[simp] theorem vRec_junk (x : GRec) : (vRec x).isJunk = false := (zbu x).junk
@[simp] theorem vRec_fz (x : GRec) (g : Nat → Option AObj) (F : List Nat) : fzV g F (vRec x) = vRec x := (zbu x).fz F
@[simp] theorem vRec_tag (x : GRec) : tagV (vRec x) = vRec x := by simp [vRec,GRec.cells]
@[simp high] theorem vRec_cells (x : GRec) : (vRec x).cells = x.cells := rfl
@[simp] theorem vRec_scalar (x : GRec) : (vRec x).scalar = true := rfl
@[simp] theorem vRec_mk (a0 a1 a2 a3 a4 a5 a6 a7 a8 a9 a10 a11 : Int) : V.agg [.int .i64 a0,.int .i64 a1,.int .i64 a2,.int .i64 a3,.int .i64 a4,.int .i64 a5,.int .i64 a6,.int .i64 a7,.int .i64 a8,.int .i64 a9,.int .i64 a10,.int .i64 a11] = vRec ⟨a0,a1,a2,⟨a3,a4,a5,a6,a7,a8,a9,a10,a11⟩⟩ := rfl
@[simp] theorem GEntry.eta (e : GEntry) : (⟨e.Kind,e.Tick,e.Tenant,e.Cell,e.Other,e.Epoch,e.From,e.Until,e.N⟩ : GEntry) = e := rfl
@[simp] theorem GRec.eta (r : GRec) : (⟨r.k,r.t,r.n,r.e⟩ : GRec) = r := rfl
@[simp] theorem vRec_start (g : Nat → Option AObj) (x : GRec) : zbv g (vRec x) = [] := zc8 g (zbu x)
def rcO (r : GRec) : AObj := ⟨120,12,[GRec.cells r],true,2,.rw⟩
@[simp] theorem rcO_inj {r s : GRec} : rcO r = rcO s ↔ r = s := ⟨fun h => by simp only [rcO,AObj.mk.injEq,List.cons.injEq,true_and,and_true] at h; exact GRec.cells_inj h,fun h => by rw [h]⟩
@[simp] theorem rc_elems (r : GRec) : (rcO r).elems = [GRec.cells r] := rfl
@[simp] theorem rc_et (r : GRec) : (rcO r).et = 120 := rfl
@[simp] theorem rc_es (r : GRec) : (rcO r).es = 12 := rfl
@[simp] theorem rc_tight (r : GRec) : (rcO r).tight = true := rfl
@[simp] theorem rc_md (r : GRec) : (rcO r).md = .rw := rfl
@[simp] theorem rc_fl (r : GRec) : (rcO r).fl = 2 := rfl
@[simp] theorem rc_fold (a0 a1 a2 a3 a4 a5 a6 a7 a8 a9 a10 a11 : Int) : (⟨120,12,[[.int .i64 a0,.int .i64 a1,.int .i64 a2,.int .i64 a3,.int .i64 a4,.int .i64 a5,.int .i64 a6,.int .i64 a7,.int .i64 a8,.int .i64 a9,.int .i64 a10,.int .i64 a11]],true,2,.rw⟩ : AObj) = rcO ⟨a0,a1,a2,⟨a3,a4,a5,a6,a7,a8,a9,a10,a11⟩⟩ := rfl
@[simp] theorem zu7 (r : GRec) : nameless (rcO r) = true := rfl
@[simp] theorem rc_linked (r : GRec) (l : List Nat) : zbP l (rcO r) = true := rfl
@[simp] theorem rc_names (r : GRec) (f : Nat → Nat) : (rcO r).ren f = rcO r := AObj.ren_nl (zu7 r)
@[simp] theorem rc_within (r : GRec) (D : Nat → Bool) : (rcO r).within D = true := rfl
@[simp] theorem rc_scalar (r : GRec) : zbA (rcO r) = true := rfl
def lgO (l : List GLogged) : AObj := ⟨56,10,GLogged.row l,false,2,.rw⟩
noncomputable def zgR := fam (fun _ : JN => [V.ptr 0 0 0]) (fun i => [jnO i]) (fun i => (i.b.length ≤ 4611686018427387904)) (fun i => ⟨.tup [],[jnO (syncJ i)]⟩)
@[simp] theorem jnSyncSp_eq {J : JN} (h1 : J.b.length ≤ 4611686018427387904) : zgR ([V.ptr 0 0 0]) ([jnO J]) = some (⟨.tup [],[jnO (syncJ J)]⟩) :=
 zai (by intro a b h h' <;> simp at h h' <;> simp_all) J h1
noncomputable def CKT1 := mkC [(101,zeh),(124,zcA),(147,zcL),(95,zeu),(113,zdE),(59,zhj)]
theorem zvn : zan Tryz.prog CKT1 := zay (zab zhi (zab zed (zab zfs (zab zh0 (zab zgD (zab zln zar))))))
@[simp] theorem CKT1_1 : CKT1 101 = zeh := rfl
@[simp] theorem CKT1_2 : CKT1 124 = zcA := rfl
@[simp] theorem CKT1_3 : CKT1 147 = zcL := rfl
@[simp] theorem CKT1_4 : CKT1 95 = zeu := rfl
@[simp] theorem CKT1_5 : CKT1 113 = zdE := rfl
@[simp] theorem CKT1_6 : CKT1 59 = zhj := rfl
theorem zl4 : Lift.Spec Tryz.prog 66 zgR := by
 refine zah [] (C := CKT1) zac zvn follows Tryz.func66 (by kernel_rfl) rfl (by kernel_rfl) rfl ?_
 rintro J h1
 try simp only at h1
 refine ⟨by simp,?_⟩
 intro r hr
 simp [h1]
 rw [hr]
 refine retC [] [.inl 0] [] rfl ?_
 simp [syncJ]
noncomputable def zcU := fam (fun _ : Unit => []) (fun _ => []) (fun _ => True) (fun _ => ⟨.agg [.int .i64 0,.int .i64 (-1),.sl 0 1 []],[]⟩)
theorem zkd {u : Unit}  : zcU ([]) ([]) = some (⟨.agg [.int .i64 0,.int .i64 (-1),.sl 0 1 []],[]⟩) :=
 zai (by intro a b h h' <;> simp at h h' <;> simp_all) u trivial
@[simp] theorem nothingSp_at : zcU [] [] = some ⟨.agg [.int .i64 0,.int .i64 (-1),.sl 0 1 []],[]⟩ := zkd (u := ())
theorem zgb : Lift.Spec Tryz.prog 58 zcU := by
 refine zaj (C := C0) zac C0_ok follows Tryz.func58 (by kernel_rfl) rfl (by kernel_rfl) rfl ?_
 rintro u _
 try simp only at _
 refine ⟨by simp,?_⟩
 intro r hr
 simp
 ((repeat refine dr ?_); rw [hr]; refine zaa rfl ?_ rfl; simp)
noncomputable def CKT2 := mkC [(59,zhj),(58,zcU)]
theorem zuV : zan Tryz.prog CKT2 := zay (zab zln (zab zgb zar))
@[simp] theorem CKT2_1 : CKT2 59 = zhj := rfl
@[simp] theorem CKT2_2 : CKT2 58 = zcU := rfl
noncomputable def zhP := fam (fun _ : Unit => []) (fun _ => []) (fun _ => True) (fun _ => ⟨.ptr 0 0 0,[jnO zeroJ]⟩)
theorem zpJ {u : Unit}  : zhP ([]) ([]) = some (⟨.ptr 0 0 0,[jnO zeroJ]⟩) :=
 zai (by intro a b h h' <;> simp at h h' <;> simp_all) u trivial
@[simp] theorem jnNewSp_at : zhP [] [] = some ⟨.ptr 0 0 0,[jnO zeroJ]⟩ := zpJ (u := ())
theorem zn9 : Lift.Spec Tryz.prog 27 zhP := by
 refine zaj (C := CKT2) zac zuV follows Tryz.func27 (by kernel_rfl) rfl (by kernel_rfl) rfl ?_
 rintro u _
 try simp only at _
 refine ⟨by simp,?_⟩
 intro r hr
 simp
 rw [hr]
 refine retC [(.inr 0,2,56,10)] [.inr 0] [.inr 0] rfl ?_
 simp [zeroJ]
noncomputable def sclSp := fam (fun i : Nat × (List GLogged) => [V.sl i.1 10 (GLogged.row i.2)]) (fun _ => []) (fun i => (i.1 ≠ 0) ∧ (i.2.length ≤ 1000000000)) (fun i => ⟨.own 0 0 i.2.length,[lgO i.2]⟩)
@[simp] theorem sclSp_eq {t : Nat} {l : List GLogged} (h1 : t ≠ 0) (h2 : l.length ≤ 1000000000) : sclSp ([V.sl t 10 (GLogged.row l)]) ([]) = some (⟨.own 0 0 l.length,[lgO l]⟩) :=
 zai (by rintro ⟨a0,a1⟩ ⟨b0,b1⟩ h h' <;> simp at h h' <;> simp_all) (t,l) ⟨h1,h2⟩
theorem zsV : Lift.Spec Tryz.prog 96 sclSp := by
 refine zaj (C := C0) zac C0_ok follows Tryz.func96 (by kernel_rfl) rfl (by kernel_rfl) rfl ?_
 rintro ⟨t,l⟩ ⟨ht,hl⟩
 try simp only at ht hl
 refine ⟨by simp,?_⟩
 intro r hr
 have h3 : (l.length : Int) * 80 ≤ 140737488355328 := by omega
 have h4 : (l.length : Int) ≤ 140737488355328 := by omega
 by_cases hc : nnB t l.isEmpty = true
 ·simp [ht,hc,h3,h4]
  rw [hr]; refine zh2 rfl rfl ?_ (by simp [lgO])
  simp [lgO]
 ·have : l = [] := by cases l with | nil => rfl | cons a l => exact absurd (by simp) hc
  subst this
  simp at hc
  simp [ht,hc]
  rw [hr]
  refine ⟨?_,?_⟩
  ·refine Ret.weak (zb5 [.inr 2] rfl ?_ ?_ (by simp) ?_ ?_ ?_ ?_) (zcs (sz := 1) 2 77 (lgO []) ?_ ?_ ?_) <;> simp [lgO]
  ·refine zh2 rfl rfl ?_ (by simp [lgO])
   simp [lgO]
noncomputable def CKT3 := mkC [(95,zeu),(96,sclSp)]
theorem zvj : zan Tryz.prog CKT3 := zay (zab zh0 (zab zsV zar))
@[simp] theorem CKT3_1 : CKT3 95 = zeu := rfl
@[simp] theorem CKT3_2 : CKT3 96 = sclSp := rfl
noncomputable def zgN := fam (fun _ : JN => [V.ptr 0 0 0]) (fun i => [jnO i]) (fun i => (i.b.length ≤ 140737488355328) ∧ (i.log.length ≤ 1000000000)) (fun i => ⟨.ptr 1 0 0,[jnO i,jnO i]⟩)
@[simp] theorem jnCopySp_eq {J : JN} (h1 : J.b.length ≤ 140737488355328) (h2 : J.log.length ≤ 1000000000) : zgN ([V.ptr 0 0 0]) ([jnO J]) = some (⟨.ptr 1 0 0,[jnO J,jnO J]⟩) :=
 zai (by intro a b h h' <;> simp at h h' <;> simp_all) J ⟨h1,h2⟩
theorem zmO : Lift.Spec Tryz.prog 56 zgN := by
 refine zah [(0,2),(0,3)] (C := CKT3) zac zvj follows Tryz.func56 (by kernel_rfl) rfl (by kernel_rfl) rfl ?_
 rintro J ⟨h1,h2⟩
 try simp only at h1 h2
 refine ⟨by simp,?_⟩
 intro r hr
 simp [h1,h2,lgO]
 (repeat refine dr ?_)
 rw [hr]
 refine retC [] [.inl 0,.inr 2] [.inl 0,.inr 2] rfl ?_
 simp [lgO]
end Go.Proofs.YtcpdgbncekdicaaGreat

namespace Go.Proofs.YtcpdgbncekdicaaGreat
open Go.Lift
noncomputable def zj4 := fam (fun i : JN × Int × Int => [V.ptr 0 0 0,.int .i64 i.2.1,.int .i64 i.2.2]) (fun i => [jnO i.1]) (fun _ => True) (fun i => ⟨.int .i64 (stE i.1 i.2.1 i.2.2),[jnO (stJ i.1 i.2.1 i.2.2)]⟩)
@[simp] theorem jnSetSp_eq {J : JN} {t v : Int}  : zj4 ([V.ptr 0 0 0,.int .i64 t,.int .i64 v]) ([jnO J]) = some (⟨.int .i64 (stE J t v),[jnO (stJ J t v)]⟩) :=
 zai (by rintro ⟨a0,a1,a2⟩ ⟨b0,b1,b2⟩ h h' <;> simp at h h' <;> simp_all) (J,t,v) trivial
theorem zo8 : Lift.Spec Tryz.prog 144 zj4 := by
 refine zah [] (C := C0) zac C0_ok follows Tryz.func144 (by kernel_rfl) rfl (by kernel_rfl) rfl ?_
 rintro ⟨J,t,v⟩ _
 refine ⟨by simp,?_⟩
 intro r hr
 by_cases h1 : t < 0
 ·have e : stE J t v = 1 := by unfold stE; (repeat' split) <;> omega
  simp [h1]
  rw [hr]
  refine retC [] [.inl 0] [] rfl ?_
  simp [e,stJ]
 by_cases h2 : 1073741824 < t
 ·have e : stE J t v = 1 := by unfold stE; (repeat' split) <;> omega
  simp [h1,h2]
  rw [hr]
  refine retC [] [.inl 0] [] rfl ?_
  simp [e,stJ]
 by_cases h3 : v < -1
 ·have e : stE J t v = 1 := by unfold stE; (repeat' split) <;> omega
  simp [h1,h2,h3]
  rw [hr]
  refine retC [] [.inl 0] [] rfl ?_
  simp [e,stJ]
 by_cases h4 : 5 ≤ v
 ·have e : stE J t v = 1 := by unfold stE; (repeat' split) <;> omega
  simp [h1,h2,h3,h4]
  rw [hr]
  refine retC [] [.inl 0] [] rfl ?_
  simp [e,stJ]
 by_cases h5 : t < J.term
 ·have e : stE J t v = 20 := by unfold stE; (repeat' split) <;> omega
  simp [h1,h2,h3,h4,h5]
  rw [hr]
  refine retC [] [.inl 0] [] rfl ?_
  simp [e,stJ]
 by_cases h6 : t = J.term
 ·by_cases h7 : J.vote = -1
  ·have e : stE J t v = 0 := by unfold stE; (repeat' split) <;> omega
   simp [h1,h2,h3,h4,h5,eq_true h6,h7]
   rw [hr]
   refine retC [] [.inl 0] [] rfl ?_
   simp [e,stJ]
  ·by_cases h8 : J.vote = v
   ·have e : stE J t v = 0 := by unfold stE; (repeat' split) <;> omega
    simp [h1,h2,h3,h4,h5,eq_true h6,eq_false h7,eq_true h8]
    rw [hr]
    refine retC [] [.inl 0] [] rfl ?_
    simp [e,stJ]
   ·have e : stE J t v = 20 := by unfold stE; (repeat' split) <;> omega
    simp [h1,h2,h3,h4,h5,eq_true h6,h7,h8]
    rw [hr]
    refine retC [] [.inl 0] [] rfl ?_
    simp [e,stJ]
 ·have e : stE J t v = 0 := by unfold stE; (repeat' split) <;> omega
  simp [h1,h2,h3,h4,h5,h6]
  rw [hr]
  refine retC [] [.inl 0] [] rfl ?_
  simp [e,stJ]
noncomputable def zgu := fam (fun i : JN × Int => [V.ptr 0 0 0,.int .i64 i.2]) (fun i => [jnO i.1]) (fun _ => True) (fun i => ⟨.tup [zaM (logAt i.1.log i.2),.bool (hasAt i.1.log i.2)],[jnO i.1]⟩)
@[simp] theorem jnAtSp_eq {J : JN} {i : Int}  : zgu ([V.ptr 0 0 0,.int .i64 i]) ([jnO J]) = some (⟨.tup [zaM (logAt J.log i),.bool (hasAt J.log i)],[jnO J]⟩) :=
 zai (by rintro ⟨a0,a1⟩ ⟨b0,b1⟩ h h' <;> simp at h h' <;> simp_all) (J,i) trivial
theorem zie : Lift.Spec Tryz.prog 61 zgu := by
 refine zah [] (C := C0) zac C0_ok follows Tryz.func61 (by kernel_rfl) rfl (by kernel_rfl) rfl ?_
 rintro ⟨J,i⟩ _
 refine ⟨by simp,?_⟩
 intro r hr
 by_cases h1 : i < 0
 ·simp [h1]
  rw [hr]
  refine retC [] [.inl 0] [] rfl ?_
  have e : hasAt J.log i = false := by simp [hasAt]; omega
  simp [h1,e,zaM,GLogged.cells]
 by_cases h2 : (J.log.length : Int) ≤ i
 ·simp [h1,h2]
  rw [hr]
  refine retC [] [.inl 0] [] rfl ?_
  have e : hasAt J.log i = false := by simp [hasAt]; omega
  simp [h2,e,zaM,GLogged.cells]
 obtain ⟨k,rfl⟩ := Int.eq_ofNat_of_zero_le (show 0 ≤ i by omega)
 have hk : k < J.log.length := by omega
 obtain ⟨x,hx,hx',_⟩ := zaT hk
 have e : hasAt J.log k = true := by simp [hasAt]; omega
 simp [h1,h2,hk,hx',GLogged.cells]
 rw [hr]
 refine retC [] [.inl 0] [] rfl ?_
 simp [e,zbJ hx,zaM,GLogged.cells]
noncomputable def CN5 := mkC [(61,zgu)]
theorem zvR : zan Tryz.prog CN5 := zay (zab zie zar)
@[simp] theorem CN5_1 : CN5 61 = zgu := rfl
noncomputable def zba := fam (fun i : JN × Int => [V.ptr 0 0 0,.int .i64 i.2]) (fun i => [jnO i.1]) (fun _ => True) (fun i => ⟨.int .i64 (logAt i.1.log i.2).Term,[jnO i.1]⟩)
@[simp] theorem jnTermAtSp_eq {J : JN} {i : Int}  : zba ([V.ptr 0 0 0,.int .i64 i]) ([jnO J]) = some (⟨.int .i64 (logAt J.log i).Term,[jnO J]⟩) :=
 zai (by rintro ⟨a0,a1⟩ ⟨b0,b1⟩ h h' <;> simp at h h' <;> simp_all) (J,i) trivial
theorem zbV : Lift.Spec Tryz.prog 75 zba := by
 refine zah [] (C := CN5) zac zvR follows Tryz.func75 (by kernel_rfl) rfl (by kernel_rfl) rfl ?_
 rintro ⟨J,i⟩ _
 refine ⟨by simp,?_⟩
 intro r hr
 simp [GLogged.cells]
 rw [hr]
 refine retC [] [.inl 0] [] rfl ?_
 simp [GLogged.cells]
noncomputable def zjw := fam (fun i : JN × Int => [V.ptr 0 0 0,.int .i64 i.2]) (fun i => [jnO i.1]) (fun i => (i.1.log.length ≤ 1000000000)) (fun i => ⟨.int .i64 (cuE i.1 i.2),[jnO (cuJ i.1 i.2)]⟩)
@[simp] theorem jnCutSp_eq {J : JN} {n : Int} (h1 : J.log.length ≤ 1000000000) : zjw ([V.ptr 0 0 0,.int .i64 n]) ([jnO J]) = some (⟨.int .i64 (cuE J n),[jnO (cuJ J n)]⟩) :=
 zai (by rintro ⟨a0,a1⟩ ⟨b0,b1⟩ h h' <;> simp at h h' <;> simp_all) (J,n) h1
theorem zpe : Lift.Spec Tryz.prog 146 zjw := by
 refine zah [] (C := C0) zac C0_ok follows Tryz.func146 (by kernel_rfl) rfl (by kernel_rfl) rfl ?_
 rintro ⟨J,n⟩ h0
 try simp only at h0
 refine ⟨by simp,?_⟩
 intro r hr
 by_cases h1 : n < 0
 ·simp [h1]
  rw [hr]
  refine retC [] [.inl 0] [] rfl ?_
  simp [cuE,cuJ,h1]
 by_cases h2 : (J.log.length : Int) < n
 ·simp [h1,h2]
  rw [hr]
  refine retC [] [.inl 0] [] rfl ?_
  simp [cuE,cuJ,h1,h2]
 obtain ⟨k,rfl⟩ := Int.eq_ofNat_of_zero_le (show 0 ≤ n by omega)
 have hk : k ≤ J.log.length := by omega
 have h3 : min k J.log.length = k := by omega
 have h4 : (k : Int) * 80 ≤ 140737488355328 := by omega
 have h5 : (k : Int) ≤ 140737488355328 := by omega
 simp [h1,h2,hk,h3,h4,h5]
 rw [hr]
 refine retC [] [.inl 0] [] rfl ?_
 simp [cuE,cuJ,h1,h2,h3,hk,List.take_take]
noncomputable def zgM := fam (fun _ : JN => [V.ptr 0 0 0]) (fun i => [jnO i]) (fun i => (i.log.length ≤ 1000000000)) (fun i => ⟨.int .i64 (lastT i.log),[jnO i]⟩)
@[simp] theorem jnLastSp_eq {J : JN} (h1 : J.log.length ≤ 1000000000) : zgM ([V.ptr 0 0 0]) ([jnO J]) = some (⟨.int .i64 (lastT J.log),[jnO J]⟩) :=
 zai (by intro a b h h' <;> simp at h h' <;> simp_all) J h1
theorem zng : Lift.Spec Tryz.prog 175 zgM := by
 refine zah [(0,2)] (C := C0) zac C0_ok follows Tryz.func175 (by kernel_rfl) rfl (by kernel_rfl) rfl ?_
 rintro J h0
 try simp only at h0
 refine ⟨by simp,?_⟩
 intro r hr
 by_cases h1 : J.log.length = 0
 ·have e : lastT J.log = 0 := by unfold lastT; rw [zq4 _ (by omega)]
  have h1' := eq_true (List.eq_nil_of_length_eq_zero h1)
  simp [h1']
  rw [hr]
  refine retC [] [.inl 0] [] rfl ?_
  simp [e]
 ·obtain ⟨k,hk⟩ : ∃ k,J.log.length = k + 1 := ⟨J.log.length - 1,by omega⟩
  obtain ⟨x,hx,hx',_⟩ := zaT (show k < J.log.length by omega)
  have w1 : IntKind.i64.wrap ((J.log.length : Int) - 1) = k := by rw [w64]; omega
  have e : lastT J.log = x.Term := by unfold lastT; rw [show (J.log.length : Int) - 1 = (k : Int) by omega,zbJ hx]
  have hlt : k < J.log.length := by omega
  have h0' : ¬ (J.log = []) := fun h => by rw [h] at hlt; simp at hlt
  simp [h0',w1,hlt,hx',GLogged.cells]
  (repeat refine dr ?_)
  rw [hr]
  refine retC [] [.inl 0] [] rfl ?_
  simp [e]
noncomputable def CN7 := mkC [(175,zgM),(104,zcY)]
theorem zvr : zan Tryz.prog CN7 := zay (zab zng (zab zf2 zar))
@[simp] theorem CN7_1 : CN7 175 = zgM := rfl
@[simp] theorem CN7_2 : CN7 104 = zcY := rfl
noncomputable def zju := fam (fun i : JN × Int × GEntry => [V.ptr 0 0 0,.int .i64 i.2.1,zaD i.2.2]) (fun i => [jnO i.1]) (fun i => (i.1.log.length ≤ 1000000000)) (fun i => ⟨.int .i64 (adE i.1 i.2.1 i.2.2),[jnO (adJ i.1 i.2.1 i.2.2)]⟩)
@[simp] theorem jnAddSp_eq {J : JN} {t : Int} {e : GEntry} (h1 : J.log.length ≤ 1000000000) : zju ([V.ptr 0 0 0,.int .i64 t,zaD e]) ([jnO J]) = some (⟨.int .i64 (adE J t e),[jnO (adJ J t e)]⟩) :=
 zai (by rintro ⟨a0,a1,a2⟩ ⟨b0,b1,b2⟩ h h' <;> simp at h h' <;> simp_all) (J,t,e) h1
theorem zn8 : Lift.Spec Tryz.prog 145 zju := by
 refine zah [] (C := CN7) zac zvr follows Tryz.func145 (by kernel_rfl) rfl (by kernel_rfl) rfl ?_
 rintro ⟨J,t,e⟩ h0
 try simp only at h0
 refine ⟨by simp,?_⟩
 intro r hr
 have h9 : J.log.length ≤ 4611686018427387904 := by omega
 by_cases h1 : t < 1
 ·have c : adE J t e = 1 := by unfold adE; rw [if_pos (.inl h1)]
  simp [h1,h9,GEntry.cells]
  rw [hr]
  refine retC [] [.inl 0] [] rfl ?_
  simp [c,adJ]
 by_cases h2 : 1073741824 < t
 ·have c : adE J t e = 1 := by unfold adE; rw [if_pos (.inr (.inl h2))]
  simp [h1,h2,h9,GEntry.cells]
  rw [hr]
  refine retC [] [.inl 0] [] rfl ?_
  simp [c,adJ]
 cases h3 : zbj e with
 | false =>
  have c : adE J t e = 1 := by unfold adE; rw [if_pos (.inr (.inr h3))]
  simp [h1,h2,h3,h9,GEntry.cells,zbb]
  rw [hr]
  refine retC [] [.inl 0] [] rfl ?_
  simp [c,adJ]
 | true =>
  have hn : ¬ (t < 1 ∨ 1073741824 < t ∨ zbj e = false) := by rw [h3]; simp; omega
  by_cases h4 : J.term < t
  ·have c : adE J t e = 20 := by unfold adE; rw [if_neg hn,if_pos (.inl h4)]
   simp [h1,h2,h3,h4,h9,h0,GEntry.cells,zbb]
   rw [hr]
   refine retC [] [.inl 0] [] rfl ?_
   simp [c,adJ]
  by_cases h5 : t < lastT J.log
  ·have c : adE J t e = 20 := by unfold adE; rw [if_neg hn,if_pos (.inr h5)]
   simp [h1,h2,h3,h4,h5,h9,h0,GEntry.cells,zbb]
   rw [hr]
   refine retC [] [.inl 0] [] rfl ?_
   simp [c,adJ]
  have hn2 : ¬ (J.term < t ∨ t < lastT J.log) := by omega
  by_cases h6 : (4096 : Int) ≤ (J.log.length : Int)
  ·have c : adE J t e = 2 := by unfold adE; rw [if_neg hn,if_neg hn2,if_pos (by omega)]
   simp [h1,h2,h3,h4,h5,h6,h9,h0,GEntry.cells,zbb]
   rw [hr]
   refine retC [] [.inl 0] [] rfl ?_
   simp [c,adJ]
  ·have c : adE J t e = 0 := by unfold adE; rw [if_neg hn,if_neg hn2,if_neg (by omega)]
   have k1 : (J.log.length : Int) * 80 ≤ 140737488355328 := by omega
   have k2 : (J.log.length : Int) ≤ 140737488355328 := by omega
   have k3 : ((J.log.length : Int) + 1) * 80 ≤ 140737488355328 := by omega
   have k4 : (J.log.length : Int) + 1 ≤ 140737488355328 := by omega
   simp [h1,h2,h3,h4,h5,h6,h9,h0,k1,k2,k3,k4,GEntry.cells,zbb,GLogged.cells]
   have hrow : [[V.int .i64 t,.int .i64 e.Kind,.int .i64 e.Tick,.int .i64 e.Tenant,.int .i64 e.Cell,.int .i64 e.Other,.int .i64 e.Epoch,.int .i64 e.From,.int .i64 e.Until,.int .i64 e.N]] = GLogged.row [⟨t,e⟩] := rfl
   (repeat refine dr ?_)
   rw [hr]
   refine retC [] [.inl 0] [] rfl ?_
   have ht : (J.log ++ [(⟨t,e⟩ : GLogged)]).take (J.log.length + 1) = J.log ++ [⟨t,e⟩] := List.take_of_length_le (by simp)
   simp [c,adJ,hrow,ht]
end Go.Proofs.YtcpdgbncekdicaaGreat

namespace Go.Proofs.YtcpdgbncekdicaaGreat
open Go.Lift
def apE (J : JN) (r : GRec) : Int := if r.k = 1 then stE J r.t r.n else if r.k = 2 then adE J r.t r.e else if r.k = 3 then cuE J r.n else 18
def apJ (J : JN) (r : GRec) : JN := if r.k = 1 then stJ J r.t r.n else if r.k = 2 then adJ J r.t r.e else if r.k = 3 then cuJ J r.n else J
theorem apJ_b (J : JN) (r : GRec) : (apJ J r).b = J.b := by
 unfold apJ
 split
 ·exact stJ_b _ _ _
 split
 ·exact adJ_b _ _ _
 split
 ·exact cuJ_b _ _
 ·rfl
noncomputable def CLA := mkC [(144,zj4),(145,zju),(146,zjw)]
theorem zvA : zan Tryz.prog CLA := zay (zab zo8 (zab zn8 (zab zpe zar)))
@[simp] theorem CLA_1 : CLA 144 = zj4 := rfl
@[simp] theorem CLA_2 : CLA 145 = zju := rfl
@[simp] theorem CLA_3 : CLA 146 = zjw := rfl
noncomputable def zdp := fam (fun i : JN × GRec => [V.ptr 0 0 0,vRec i.2]) (fun i => [jnO i.1]) (fun i => (i.2.k = 1 ∨ i.1.log.length ≤ 1000000000)) (fun i => ⟨.int .i64 (apE i.1 i.2),[jnO (apJ i.1 i.2)]⟩)
@[simp] theorem jnApplySp_eq {J : JN} {r : GRec} (h1 : r.k = 1 ∨ J.log.length ≤ 1000000000) : zdp ([V.ptr 0 0 0,vRec r]) ([jnO J]) = some (⟨.int .i64 (apE J r),[jnO (apJ J r)]⟩) :=
 zai (by rintro ⟨a0,a1⟩ ⟨b0,b1⟩ h h' <;> simp at h h' <;> simp_all) (J,r) h1
theorem zgt : Lift.Spec Tryz.prog 126 zdp := by
 refine zah [] (C := CLA) zac zvA follows Tryz.func126 (by kernel_rfl) rfl (by kernel_rfl) rfl ?_
 rintro ⟨J,x⟩ h0
 try simp only at h0
 refine ⟨by simp,?_⟩
 intro r hr
 by_cases k1 : x.k = 1
 ·simp [k1,GRec.cells,GEntry.cells]
  rw [hr]
  refine retC [] [.inl 0] [] rfl ?_
  simp [apE,apJ,k1]
 replace h0 := h0.resolve_left k1
 by_cases k2 : x.k = 2
 ·simp [k2,h0,GRec.cells,GEntry.cells]
  rw [hr]
  refine retC [] [.inl 0] [] rfl ?_
  simp [apE,apJ,k2]
 by_cases k3 : x.k = 3
 ·simp [k3,h0,GRec.cells,GEntry.cells]
  rw [hr]
  refine retC [] [.inl 0] [] rfl ?_
  simp [apE,apJ,k3]
 ·simp [k1,k2,k3,GRec.cells,GEntry.cells]
  rw [hr]
  refine retC [] [.inl 0] [] rfl ?_
  simp [apE,apJ,k1,k2,k3]
noncomputable def recB (r : GRec) : List UInt8 :=
 if r.k = 1 then enc (code 1) ++ (enc (code r.t) ++ enc (code r.n)) else if r.k = 2 then enc (code 2) ++ (enc (code r.t) ++ zca r.e) else if r.k = 3 then enc (code 3) ++ enc (code r.n) else enc (code r.k)
theorem zv2 {J : JN} {r : GRec} (h : ¬ apE J r = 0) : apJ J r = J := by
 unfold apE at h
 unfold apJ
 (repeat' split at h) <;> simp_all [stJ,adJ,cuJ]
structure GRec.ok (r : GRec) : Prop where
 k : In64 r.k
 t : In64 r.t
 n : In64 r.n
 e : GEntry.ok r.e
theorem ztn {r : GRec} (h : r.ok) : (recB r).length ≤ 65536 := by
 have e0 := enc3 h.k
 have e1 := enc3 h.t
 have e2 := enc3 h.n
 have e3 := zfM h.e
 have f1 := enc3 in1
 have f2 := enc3 in2
 have f3 := enc3 in3
 unfold recB
 (repeat' split) <;> (try simp only [List.length_append]) <;> omega
noncomputable def CLB := mkC [(177,intSp),(179,zgZ)]
theorem zv1 : zan Tryz.prog CLB := zay (zab zgT (zab zmy zar))
@[simp] theorem CLB_1 : CLB 177 = intSp := rfl
@[simp] theorem CLB_2 : CLB 179 = zgZ := rfl
noncomputable def znZ := fam (fun i : GRec => [vRec i]) (fun _ => []) (fun i => (GRec.ok i)) (fun i => ⟨.own 0 0 (recB i).length,[rowOf (recB i)]⟩)
@[simp] theorem recbSp_eq {r : GRec} (h1 : GRec.ok r) : znZ ([vRec r]) ([]) = some (⟨.own 0 0 (recB r).length,[rowOf (recB r)]⟩) :=
 zai (by intro a b h h' <;> simp at h h' <;> simp_all) r h1
theorem zqX : Lift.Spec Tryz.prog 149 znZ := by
 refine zaj (C := CLB) zac zv1 follows Tryz.func149 (by kernel_rfl) rfl (by kernel_rfl) rfl ?_
 rintro x h0
 try simp only at h0
 refine ⟨by simp,?_⟩
 intro r hr
 have hk := h0.k
 have ht := h0.t
 have hn := h0.n
 have he := h0.e
 have e0 := enc3 hk
 have e1 := enc3 ht
 have e2 := enc3 hn
 have e3 := zfM he
 have i0 := zlh (t := 0) hk
 have i1 : ((enc (code x.k)).length : Int) ≤ 140737488351222 := by omega
 by_cases k1 : x.k = 1
 ·have i2 : ((enc (code x.k)).length : Int) + ((enc (code x.t)).length : Int) ≤ 140737488351222 := by omega
  rw [k1] at i0 i1 i2 hk
  have it : List.take ((enc (code 1)).length + ((enc (code x.t)).length + (enc (code x.n)).length)) (enc (code 1) ++ (enc (code x.t) ++ enc (code x.n))) = enc (code 1) ++ (enc (code x.t) ++ enc (code x.n)) := List.take_of_length_le (by simp)
  simp [k1,i0,i1,i2,hk,ht,hn,rowOf,GRec.cells,GEntry.cells]
  (repeat refine dr ?_)
  rw [hr]
  refine retC [] [] [.inr 2] rfl ?_
  simp [recB,k1,rowOf,it,Nat.add_assoc]
 by_cases k2 : x.k = 2
 ·have i2 : ((enc (code x.k)).length : Int) + (((enc (code x.t)).length : Int) + ((zca x.e).length : Int)) ≤ 140737488355328 := by omega
  rw [k2] at i0 i1 i2 hk
  have it : List.take ((enc (code 2)).length + ((enc (code x.t)).length + (zca x.e).length)) (enc (code 2) ++ (enc (code x.t) ++ zca x.e)) = enc (code 2) ++ (enc (code x.t) ++ zca x.e) := List.take_of_length_le (by simp)
  simp [k2,i0,i1,i2,hk,ht,he,rowOf,GRec.cells,GEntry.cells,Nat.add_assoc,Int.add_assoc]
  (repeat refine dr ?_)
  rw [hr]
  refine retC [] [] [.inr 2] rfl ?_
  simp [recB,k2,rowOf,it,Nat.add_assoc]
 by_cases k3 : x.k = 3
 ·rw [k3] at i0 i1 hk
  simp [k3,i0,i1,hk,hn,rowOf,GRec.cells,GEntry.cells]
  rw [hr]
  refine retC [] [] [.inr 2] rfl ?_
  simp [recB,k3,rowOf]
 ·simp [k1,k2,k3,i0,i1,rowOf,GRec.cells,GEntry.cells]
  rw [hr]
  refine retC [] [] [.inr 2] rfl ?_
  simp [recB,k1,k2,k3,rowOf]
noncomputable def CLC := mkC [(149,znZ),(148,putSp),(147,zcL)]
theorem zvT : zan Tryz.prog CLC := zay (zab zqX (zab zty (zab zfs zar)))
@[simp] theorem CLC_1 : CLC 149 = znZ := rfl
@[simp] theorem CLC_2 : CLC 148 = putSp := rfl
@[simp] theorem CLC_3 : CLC 147 = zcL := rfl
noncomputable def zjX := fam (fun i : (List UInt8) × Nat × GRec => [V.agg [V.ptr 0 0 0],vRec i.2.2]) (fun i => [diskO i.1 i.2.1]) (fun i => (i.1.length ≤ 1000000000) ∧ (GRec.ok i.2.2)) (fun i => ⟨.tup [],[diskO (i.1 ++ putB 8 [] (recB i.2.2)) i.2.1]⟩)
@[simp] theorem jnPutSp_eq {l : List UInt8} {d : Nat} {r : GRec} (h1 : l.length ≤ 1000000000) (h2 : GRec.ok r) : zjX ([V.agg [V.ptr 0 0 0],vRec r]) ([diskO l d]) = some (⟨.tup [],[diskO (l ++ putB 8 [] (recB r)) d]⟩) :=
 zai (by rintro ⟨a0,a1,a2⟩ ⟨b0,b1,b2⟩ h h' <;> simp at h h' <;> simp_all) (l,d,r) ⟨h1,h2⟩
theorem zpB : Lift.Spec Tryz.prog 127 zjX := by
 refine zah [] (C := CLC) zac zvT follows Tryz.func127 (by kernel_rfl) rfl (by kernel_rfl) rfl ?_
 rintro ⟨l,d,x⟩ ⟨h1,h2⟩
 try simp only at h1 h2
 refine ⟨by simp,?_⟩
 intro r hr
 have h2' := ztn h2
 have hl := znM (key := 8) h2'
 have h3 : l.length + (putB 8 [] (recB x)).length ≤ 140737488355328 := by omega
 have hp : (recB x).length ≤ 9223372036854775807 := by omega
 have e := zsN (t := 0) (b := []) (u := 2) (p := recB x) (key := 8) (by simp) in8 (by simp) hp
 simp only [zlQ] at e
 simp [e,h2,h3,rowOf,GRec.cells,GEntry.cells]
 (repeat refine dr ?_)
 rw [hr]
 refine retE [] [] [] [] [.inl 0] rfl ?_
 simp
noncomputable def wrJ (J : JN) (r : GRec) : JN := if apE J r = 0 then putJ (apJ J r) (recB r) else J
noncomputable def CLD := mkC [(126,zdp),(127,zjX)]
theorem zvD : zan Tryz.prog CLD := zay (zab zgt (zab zpB zar))
@[simp] theorem CLD_1 : CLD 126 = zdp := rfl
@[simp] theorem CLD_2 : CLD 127 = zjX := rfl
noncomputable def zfG := fam (fun i : JN × GRec => [V.ptr 0 0 0,vRec i.2]) (fun i => [jnO i.1]) (fun i => (i.1.b.length ≤ 1000000000) ∧ (i.2.k = 1 ∨ i.1.log.length ≤ 1000000000) ∧ (GRec.ok i.2)) (fun i => ⟨.int .i64 (apE i.1 i.2),[jnO (wrJ i.1 i.2)]⟩)
@[simp] theorem jnWriteSp_eq {J : JN} {r : GRec} (h1 : J.b.length ≤ 1000000000) (h2 : r.k = 1 ∨ J.log.length ≤ 1000000000) (h3 : GRec.ok r) : zfG ([V.ptr 0 0 0,vRec r]) ([jnO J]) = some (⟨.int .i64 (apE J r),[jnO (wrJ J r)]⟩) :=
 zai (by rintro ⟨a0,a1⟩ ⟨b0,b1⟩ h h' <;> simp at h h' <;> simp_all) (J,r) ⟨h1,h2,h3⟩
theorem zkv : Lift.Spec Tryz.prog 100 zfG := by
 refine zah [] (C := CLD) zac zvD follows Tryz.func100 (by kernel_rfl) rfl (by kernel_rfl) rfl ?_
 rintro ⟨J,x⟩ ⟨h1,h0,h2⟩
 try simp only at h1 h0 h2
 refine ⟨by simp,?_⟩
 intro r hr
 have i4 : (apJ J x).b.length ≤ 1000000000 := by rw [apJ_b]; exact h1
 by_cases h : apE J x = 0
 ·simp [h0,h,h2,i4,GRec.cells,GEntry.cells]
  (repeat refine dr ?_)
  rw [hr]
  refine retC [] [.inl 0] [] rfl ?_
  simp [h,wrJ,putJ]
 ·simp [h0,h,GRec.cells,GEntry.cells]
  (repeat refine dr ?_)
  rw [hr]
  refine retC [] [.inl 0] [] rfl ?_
  simp [h,wrJ,zv2 h]
end Go.Proofs.YtcpdgbncekdicaaGreat

namespace Go.Proofs.YtcpdgbncekdicaaGreat
open Go.Lift
def ptO (offs : List Nat) : AObj := ⟨184,1,offs.map (fun o => [V.ptr 1 0 o]),true,0,.rw⟩
@[simp] theorem pt_elems (l : List Nat) : (ptO l).elems = l.map (fun o => [V.ptr 1 0 o]) := rfl
@[simp] theorem pt_et (l : List Nat) : (ptO l).et = 184 := rfl
@[simp] theorem pt_es (l : List Nat) : (ptO l).es = 1 := rfl
@[simp] theorem pt_tight (l : List Nat) : (ptO l).tight = true := rfl
@[simp] theorem pt_md (l : List Nat) : (ptO l).md = .rw := rfl
@[simp] theorem pt_fl (l : List Nat) : (ptO l).fl = 0 := rfl
theorem zu6 {l m : List Nat} (h : ptO l = ptO m) : l = m := by
 simp only [ptO,AObj.mk.injEq,true_and,and_true] at h
 induction l generalizing m with
 | nil => cases m with
  | nil => rfl
  | cons a m => simp at h
 | cons a l ih => cases m with
  | nil => simp at h
  | cons b m =>
   simp only [List.map_cons,List.cons.injEq,V.ptr.injEq,and_true,true_and] at h
   rw [h.1,ih h.2]
@[simp] theorem ptO_eq {l m : List Nat} : ptO l = ptO m ↔ l = m := ⟨zu6,fun h => by rw [h]⟩
theorem zvd (f : Nat → Nat) : (V.ren.renAll f ∘ fun o : Nat => [V.ptr 1 0 o]) = fun o => [V.ptr (f 1) 0 o] := rfl
attribute [simp] zvd
theorem pt_fz (g : Nat → Option AObj) (F : List Nat) : ((fun x : List V => List.map (fzV g F) x) ∘ fun o : Nat => [V.ptr 1 0 o]) = fun o => [V.ptr 1 0 o] := rfl
attribute [simp] pt_fz
theorem zkQ {l : List Nat} (h : l ≠ []) : zaC (l.map fun o => [V.ptr 1 0 o]) = false := by
 cases l with
 | nil => exact absurd rfl h
 | cons a l => rfl
theorem ziB {n : Nat} (h : n < 2) : n = 0 ∨ n = 1 := by omega
def setF (o : Nat) (v : Int) (r : GRec) : GRec := if o = 0 then { r with k := v } else if o = 1 then { r with t := v } else { r with n := v }
noncomputable def tkiGo : List Nat → List UInt8 → GRec → Bool × List UInt8 × GRec
 | [],b,r => (true,b,r)
 | o :: os,b,r => if (takeT b).2.2 = 0 then tkiGo os (b.drop (takeT b).2.1.toNat) (setF o (takeT b).1 r) else (false,[],r)
noncomputable def zcG (t : Nat) (offs : List Nat) (b : List UInt8) (r : GRec) : CRes :=
 ⟨.tup [if (tkiGo offs b r).1 = true then .sl t 1 (zaf (tkiGo offs b r).2.1) else .sl 0 1 [],.bool (tkiGo offs b r).1],[ptO offs,rcO (tkiGo offs b r).2.2]⟩
theorem zmn (t : Nat) : zdg t true = t := by unfold zdg; split <;> simp_all
attribute [simp] zmn
def OffOk (l : List Nat) : Prop := ∀ o ∈ l,o ≤ 2
noncomputable def tkiSp := fam (fun i : Nat × (List Nat) × (List UInt8) × GRec => [V.sl i.1 1 (zaf i.2.2.1),.own 0 0 i.2.1.length]) (fun i => [ptO i.2.1,rcO i.2.2.2]) (fun i => (OffOk i.2.1) ∧ (i.2.1 ≠ []) ∧ (i.2.1.length ≤ 2)) (fun i => zcG i.1 i.2.1 i.2.2.1 i.2.2.2)
@[simp] theorem zg5 {t : Nat} {offs : List Nat} {b : List UInt8} {r : GRec} (h1 : OffOk offs) (h2 : offs ≠ []) (h3 : offs.length ≤ 2) : tkiSp ([V.sl t 1 (zaf b),.own 0 0 offs.length]) ([ptO offs,rcO r]) = some (zcG t offs b r) :=
 zai (by rintro ⟨a0,a1,a2,a3⟩ ⟨b0,b1,b2,b3⟩ h h' <;> simp at h h' <;> simp_all) (t,offs,b,r) ⟨h1,h2,h3⟩
noncomputable def CMA := mkC [(183,zcX)]
theorem zvt : zan Tryz.prog CMA := zay (zab zhr zar)
@[simp] theorem CMA_1 : CMA 183 = zcX := rfl
noncomputable def tkiSt (t : Nat) (offs : List Nat) (i : Nat × List UInt8 × GRec) : St := mkSt [(0,.sl t 1 (zaf i.2.1)),(11,.own 0 0 offs.length),(12,.int .i64 offs.length),(13,.int .i64 i.1)] [(0,ptO offs),(1,rcO i.2.2)] 2
set_option maxHeartbeats 4000000 in
theorem ztD : Lift.Spec Tryz.prog 186 tkiSp := by
 refine zah [] (C := CMA) zac zvt follows Tryz.func186 (by kernel_rfl) rfl (by kernel_rfl) rfl ?_
 rintro ⟨t,offs,b,x⟩ ⟨h1,hne,h2⟩
 try simp only at h1 hne h2
 refine ⟨by simp,?_⟩
 intro r hr
 simp
 refine zaz (tkiSt t offs) (fun i => i.1 ≤ offs.length ∧ tkiGo (offs.drop i.1) i.2.1 i.2.2 = tkiGo offs b x) (fun i => offs.length - i.1) (0,b,x) ?_ ⟨Nat.zero_le _,rfl⟩ ?_
 ·refine zaF [.inl 0,.inl 1] ?_ ?_ ?_ ?_ <;> first | (simp; done) | (intro n hn; rcases ziB hn with rfl | rfl <;> simp) | (simp [zaN,ptO]; done)
 ·rintro ⟨i,c,y⟩ ⟨hi,g1⟩
  simp only at hi g1
  by_cases hik : i < offs.length
  ·obtain ⟨o,ho,ho',hom⟩ := zaT hik
   have w4 : IntKind.i64.wrap ((i : Int) + 1) = (i : Int) + 1 := w64
   have hdrop : offs.drop i = o :: offs.drop (i + 1) := by rw [← ho']; exact (List.drop_eq_getElem_cons hik)
   rw [hdrop,tkiGo] at g1
   have hol := h1 o hom
   rcases zcg c with ⟨e,he,hT⟩ | ⟨n,q,hT,hq1,hq2⟩
   ·rw [hT,if_neg he] at g1
    simp [tkiSt,hik,ho',hT,he,takeV]
    rw [hr]
    refine retE [] [] [] [] [.inl 0,.inl 1] rfl ?_
    simp [zcG,← g1,zaN]
    exact ⟨zkQ hne,fun j hj => by rcases ziB hj with rfl | rfl <;> simp⟩
   ·rw [hT,if_pos rfl] at g1
    simp only [Int.toNat_natCast] at g1
    have : o = 0 ∨ o = 1 ∨ o = 2 := by omega
    rcases this with rfl | rfl | rfl
    ·simp [tkiSt,hik,ho',hT,takeV,hq2,GRec.cells]
     refine Again.mk (i + 1,c.drop q,setF 0 n y) ⟨hik,g1⟩ (by simp only; omega) ?_
     refine zaF [.inl 0,.inl 1] ?_ ?_ ?_ ?_ <;> first | (simp [w4,setF]; done) | (intro n hn; rcases ziB hn with rfl | rfl <;> simp) | (simp [zaN,ptO,setF]; done)
    ·simp [tkiSt,hik,ho',hT,takeV,hq2,GRec.cells]
     refine Again.mk (i + 1,c.drop q,setF 1 n y) ⟨hik,g1⟩ (by simp only; omega) ?_
     refine zaF [.inl 0,.inl 1] ?_ ?_ ?_ ?_ <;> first | (simp [w4,setF]; done) | (intro n hn; rcases ziB hn with rfl | rfl <;> simp) | (simp [zaN,ptO,setF]; done)
    ·simp [tkiSt,hik,ho',hT,takeV,hq2,GRec.cells]
     refine Again.mk (i + 1,c.drop q,setF 2 n y) ⟨hik,g1⟩ (by simp only; omega) ?_
     refine zaF [.inl 0,.inl 1] ?_ ?_ ?_ ?_ <;> first | (simp [w4,setF]; done) | (intro n hn; rcases ziB hn with rfl | rfl <;> simp) | (simp [zaN,ptO,setF]; done)
  ·have hi' : i = offs.length := by omega
   subst hi'
   rw [List.drop_length,tkiGo] at g1
   simp [tkiSt]
   rw [hr]
   refine retE [] [] [] [] [.inl 0,.inl 1] rfl ?_
   simp [zcG,← g1,zaN]
   exact ⟨zkQ hne,fun j hj => by rcases ziB hj with rfl | rfl <;> simp⟩
theorem off0 : OffOk [0] := fun o h => by simp at h; omega
theorem off1 : OffOk [1] := fun o h => by simp at h; omega
theorem off2 : OffOk [2] := fun o h => by simp at h; omega
theorem off12 : OffOk [1,2] := fun o h => by simp at h; omega
@[simp] theorem tki_0 (t : Nat) (b : List UInt8) (r : GRec) : tkiSp [V.sl t 1 (zaf b),.own 0 0 1] [⟨184,1,[[V.ptr 1 0 0]],true,0,.rw⟩,rcO r] = some (zcG t [0] b r) := zg5 (offs := [0]) off0 (by simp) (by simp)
@[simp] theorem tki_1 (t : Nat) (b : List UInt8) (r : GRec) : tkiSp [V.sl t 1 (zaf b),.own 0 0 1] [⟨184,1,[[V.ptr 1 0 1]],true,0,.rw⟩,rcO r] = some (zcG t [1] b r) := zg5 (offs := [1]) off1 (by simp) (by simp)
@[simp] theorem tki_2 (t : Nat) (b : List UInt8) (r : GRec) : tkiSp [V.sl t 1 (zaf b),.own 0 0 1] [⟨184,1,[[V.ptr 1 0 2]],true,0,.rw⟩,rcO r] = some (zcG t [2] b r) := zg5 (offs := [2]) off2 (by simp) (by simp)
@[simp] theorem tki_12 (t : Nat) (b : List UInt8) (r : GRec) : tkiSp [V.sl t 1 (zaf b),.own 0 0 2] [⟨184,1,[[V.ptr 1 0 1],[V.ptr 1 0 2]],true,0,.rw⟩,rcO r] = some (zcG t [1,2] b r) := zg5 (offs := [1,2]) off12 (by simp) (by simp)
theorem zjE {t o : Nat} {l : List Nat} {b : List UInt8} {r : GRec} {e : Int} (he : ¬ e = 0) (h : takeT b = (0,0,e)) : zcG t (o :: l) b r = ⟨.tup [.sl 0 1 [],.bool false],[ptO (o :: l),rcO r]⟩ := by simp [zcG,tkiGo,h,he]
theorem zbM {t o : Nat} {b : List UInt8} {r : GRec} {n : Int} {q : Nat} (h : takeT b = (n,(q : Int),0)) : zcG t [o] b r = ⟨.tup [.sl t 1 (zaf (b.drop q)),.bool true],[ptO [o],rcO (setF o n r)]⟩ := by simp [zcG,tkiGo,h]
theorem zqg {t o p : Nat} {b : List UInt8} {r : GRec} {n v : Int} {q m : Nat} (h : takeT b = (n,(q : Int),0)) (h2 : takeT (b.drop q) = (v,(m : Int),0)) : zcG t [o,p] b r = ⟨.tup [.sl t 1 (zaf (b.drop (q + m))),.bool true],[ptO [o,p],rcO (setF p v (setF o n r))]⟩ := by simp [zcG,tkiGo,h,h2]
theorem zsG {t o p : Nat} {b : List UInt8} {r : GRec} {n : Int} {q : Nat} {e : Int} (he : ¬ e = 0) (h : takeT b = (n,(q : Int),0)) (h2 : takeT (b.drop q) = (0,0,e)) : zcG t [o,p] b r = ⟨.tup [.sl 0 1 [],.bool false],[ptO [o,p],rcO (setF o n r)]⟩ := by simp [zcG,tkiGo,h,h2,he]
theorem zcj (o : Nat) : ptO [o] = ⟨184,1,[[V.ptr 1 0 o]],true,0,.rw⟩ := rfl
theorem ze1 (o p : Nat) : ptO [o,p] = ⟨184,1,[[V.ptr 1 0 o],[V.ptr 1 0 p]],true,0,.rw⟩ := rfl
noncomputable def teRes (t : Nat) (b : List UInt8) (r : GRec) : CRes := if (readE b).2.2 = 0 then ⟨.tup [.sl t 1 (zaf (b.drop (readE b).2.1.toNat)),.bool true],[rcO { r with e := (readE b).1 }]⟩ else ⟨.tup [.sl 0 1 [],.bool false],[rcO r]⟩
theorem te_ok {t : Nat} {b : List UInt8} {r : GRec} {y : GEntry} {k : Nat} (h : readE b = (y,(k : Int),0)) : teRes t b r = ⟨.tup [.sl t 1 (zaf (b.drop k)),.bool true],[rcO { r with e := y }]⟩ := by unfold teRes; rw [h,if_pos rfl]; simp
theorem zuc {t : Nat} {b : List UInt8} {r : GRec} {y : GEntry} {m g : Int} (hg : ¬ g = 0) (h : readE b = (y,m,g)) : teRes t b r = ⟨.tup [.sl 0 1 [],.bool false],[rcO r]⟩ := by unfold teRes; rw [h,if_neg hg]
noncomputable def teSp := fam (fun i : Nat × (List UInt8) × GRec => [V.sl i.1 1 (zaf i.2.1),.ptr 0 0 3]) (fun i => [rcO i.2.2]) (fun i => ((i.2.1.length : Int) ≤ 140737488355328)) (fun i => teRes i.1 i.2.1 i.2.2)
@[simp] theorem teSp_eq {t : Nat} {b : List UInt8} {r : GRec} (h1 : (b.length : Int) ≤ 140737488355328) : teSp ([V.sl t 1 (zaf b),.ptr 0 0 3]) ([rcO r]) = some (teRes t b r) :=
 zai (by rintro ⟨a0,a1,a2⟩ ⟨b0,b1,b2⟩ h h' <;> simp at h h' <;> simp_all) (t,b,r) h1
noncomputable def CMB := mkC [(202,znS)]
theorem zv0 : zan Tryz.prog CMB := zay (zab zro zar)
@[simp] theorem CMB_1 : CMB 202 = znS := rfl
set_option maxHeartbeats 4000000 in
theorem zuI : Lift.Spec Tryz.prog 187 teSp := by
 refine zah [] (C := CMB) zac zv0 follows Tryz.func187 (by kernel_rfl) rfl (by kernel_rfl) rfl ?_
 rintro ⟨t,b,x⟩ h1
 try simp only at h1
 refine ⟨by simp,?_⟩
 intro r hr
 rcases hT : readE b with ⟨y,m,g⟩
 by_cases hg : g = 0
 ·subst hg
  obtain ⟨g1,g2,g3,_⟩ := zfW hT
  obtain ⟨k,rfl⟩ := Int.eq_ofNat_of_zero_le (show 0 ≤ m by omega)
  have hk : k ≤ b.length := by omega
  simp only [te_ok hT] at hr
  simp [ze6 hT,h1,hk,GRec.cells,GEntry.cells]
  rw [hr]
  refine retC [] [] [] rfl ?_
  simp
 ·simp only [zuc hg hT] at hr
  simp [ze6 hT,h1,hg,GRec.cells,GEntry.cells]
  rw [hr]
  refine retC [] [] [] rfl ?_
  simp
end Go.Proofs.YtcpdgbncekdicaaGreat

namespace Go.Proofs.YtcpdgbncekdicaaGreat
open Go.Lift
def zeroR : GRec := ⟨0,0,0,⟨0,0,0,0,0,0,0,0,0⟩⟩
noncomputable def readR (p : List UInt8) : GRec × Bool :=
 if (takeT p).2.2 ≠ 0 then (zeroR,false) else
 if (takeT p).1 = 1 then
  (if (takeT (p.drop (takeT p).2.1.toNat)).2.2 ≠ 0 then (zeroR,false) else
   if (takeT (p.drop ((takeT p).2.1.toNat + (takeT (p.drop (takeT p).2.1.toNat)).2.1.toNat))).2.2 = 0 ∧ (takeT p).2.1.toNat + ((takeT (p.drop (takeT p).2.1.toNat)).2.1.toNat + (takeT (p.drop ((takeT p).2.1.toNat + (takeT (p.drop (takeT p).2.1.toNat)).2.1.toNat))).2.1.toNat) = p.length then
    ({ zeroR with k := 1,t := (takeT (p.drop (takeT p).2.1.toNat)).1,n := (takeT (p.drop ((takeT p).2.1.toNat + (takeT (p.drop (takeT p).2.1.toNat)).2.1.toNat))).1 },true) else (zeroR,false))
 else if (takeT p).1 = 2 then
  (if (takeT (p.drop (takeT p).2.1.toNat)).2.2 ≠ 0 then (zeroR,false) else
   if (readE (p.drop ((takeT p).2.1.toNat + (takeT (p.drop (takeT p).2.1.toNat)).2.1.toNat))).2.2 = 0 ∧ (takeT p).2.1.toNat + ((takeT (p.drop (takeT p).2.1.toNat)).2.1.toNat + (readE (p.drop ((takeT p).2.1.toNat + (takeT (p.drop (takeT p).2.1.toNat)).2.1.toNat))).2.1.toNat) = p.length then
    ({ zeroR with k := 2,t := (takeT (p.drop (takeT p).2.1.toNat)).1,e := (readE (p.drop ((takeT p).2.1.toNat + (takeT (p.drop (takeT p).2.1.toNat)).2.1.toNat))).1 },true) else (zeroR,false))
 else if (takeT p).1 = 3 then
  (if (takeT (p.drop (takeT p).2.1.toNat)).2.2 ≠ 0 then (zeroR,false) else
   if (takeT p).2.1.toNat + (takeT (p.drop (takeT p).2.1.toNat)).2.1.toNat = p.length then ({ zeroR with k := 3,n := (takeT (p.drop (takeT p).2.1.toNat)).1 },true) else (zeroR,false))
 else if (takeT p).2.1.toNat = p.length then ({ zeroR with k := (takeT p).1 },true) else (zeroR,false)
noncomputable def CPA := mkC [(186,tkiSp),(187,teSp)]
theorem zv8 : zan Tryz.prog CPA := zay (zab ztD (zab zuI zar))
@[simp] theorem CPA_1 : CPA 186 = tkiSp := rfl
@[simp] theorem CPA_2 : CPA 187 = teSp := rfl
noncomputable def rdrSp := fam (fun i : Nat × (List UInt8) => [V.sl i.1 1 (zaf i.2)]) (fun _ => []) (fun i => ((i.2.length : Int) ≤ 140737488355328)) (fun i => ⟨.tup [vRec (readR i.2).1,.bool (readR i.2).2],[]⟩)
@[simp] theorem rdrSp_eq {t : Nat} {p : List UInt8} (h1 : (p.length : Int) ≤ 140737488355328) : rdrSp ([V.sl t 1 (zaf p)]) ([]) = some (⟨.tup [vRec (readR p).1,.bool (readR p).2],[]⟩) :=
 zai (by rintro ⟨a0,a1⟩ ⟨b0,b1⟩ h h' <;> simp at h h' <;> simp_all) (t,p) h1
set_option maxHeartbeats 8000000 in
theorem ztc : Lift.Spec Tryz.prog 157 rdrSp := by
 refine zaj (C := CPA) zac zv8 follows Tryz.func157 (by kernel_rfl) rfl (by kernel_rfl) rfl ?_
 rintro ⟨t,p⟩ hp
 try simp only at hp
 refine ⟨by simp,?_⟩
 intro r hr
 rcases zcg p with ⟨e,he,hT⟩ | ⟨kind,q,hT,hq1,hq2⟩
 ·simp [zjE he hT,zcj,GRec.cells]
  have hR : readR p = (zeroR,false) := by simp [readR,hT,he]
  ((repeat refine dr ?_); rw [hr]; refine zaa rfl ?_ rfl; simp [hR,zeroR,GRec.cells,GEntry.cells])
 have hq3 : (q : Int) ≤ p.length := by omega
 by_cases k1 : kind = 1
 ·subst k1
  rcases zcg (p.drop q) with ⟨e,he,hT2⟩ | ⟨n,k,hT2,hk1,hk2⟩
  ·simp [zbM hT,zjE he hT2,zcj,ze1,GRec.cells,setF]
   have hR : readR p = (zeroR,false) := by simp [readR,hT,hT2,he]
   ((repeat refine dr ?_); rw [hr]; refine zaa rfl ?_ rfl; simp [hR,zeroR,GRec.cells,GEntry.cells])
  rw [List.length_drop] at hk2
  rcases zcg (p.drop (q + k)) with ⟨e,he,hT3⟩ | ⟨v,m,hT3,hm1,hm2⟩
  ·have hT3' : takeT ((p.drop q).drop k) = (0,0,e) := by rw [List.drop_drop]; exact hT3
   simp [zbM hT,zsG he hT2 hT3',zcj,ze1,GRec.cells,setF]
   have hR : readR p = (zeroR,false) := by simp [readR,hT,hT2,hT3,he]
   ((repeat refine dr ?_); rw [hr]; refine zaa rfl ?_ rfl; simp [hR,zeroR,GRec.cells,GEntry.cells])
  rw [List.length_drop] at hm2
  have hT3' : takeT ((p.drop q).drop k) = (v,(m : Int),0) := by rw [List.drop_drop]; exact hT3
  by_cases hl : q + (k + m) = p.length
  ·have hl2 : ¬ 0 < p.length - (q + (k + m)) := by omega
   simp [zbM hT,zqg hT2 hT3',zcj,ze1,GRec.cells,setF,hl2]
   have hR : readR p = ({ zeroR with k := 1,t := n,n := v },true) := by simp [readR,hT,hT2,hT3,hl]
   ((repeat refine dr ?_); rw [hr]; refine zaa rfl ?_ rfl; simp [hR,zeroR,GRec.cells,GEntry.cells])
  ·have hl2 : 0 < p.length - (q + (k + m)) := by omega
   simp [zbM hT,zqg hT2 hT3',zcj,ze1,GRec.cells,setF,hl2]
   have hR : readR p = (zeroR,false) := by simp [readR,hT,hT2,hT3,hl]
   ((repeat refine dr ?_); rw [hr]; refine zaa rfl ?_ rfl; simp [hR,zeroR,GRec.cells,GEntry.cells])
 by_cases k2 : kind = 2
 ·subst k2
  rcases zcg (p.drop q) with ⟨e,he,hT2⟩ | ⟨n,k,hT2,hk1,hk2⟩
  ·simp [zbM hT,zjE he hT2,zcj,GRec.cells,setF]
   have hR : readR p = (zeroR,false) := by simp [readR,hT,hT2,he]
   ((repeat refine dr ?_); rw [hr]; refine zaa rfl ?_ rfl; simp [hR,zeroR,GRec.cells,GEntry.cells])
  rw [List.length_drop] at hk2
  have hpl : ((p.length - (q + k) : Nat) : Int) ≤ 140737488355328 := by omega
  rcases hT3 : readE (p.drop (q + k)) with ⟨x,m,g⟩
  by_cases hg : g = 0
  ·subst hg
   obtain ⟨g1,g2,g3,_⟩ := zfW hT3
   rw [List.length_drop] at g3
   obtain ⟨m,rfl⟩ := Int.eq_ofNat_of_zero_le (show 0 ≤ m by omega)
   by_cases hl : q + (k + m) = p.length
   ·have hl2 : ¬ 0 < p.length - (q + (k + m)) := by omega
    simp [zbM hT,zbM hT2,te_ok hT3,zcj,ze1,GRec.cells,setF,hl2,hpl,Nat.add_assoc]
    have hR : readR p = ({ zeroR with k := 2,t := n,e := x },true) := by simp [readR,hT,hT2,hT3,hl]
    ((repeat refine dr ?_); rw [hr]; refine zaa rfl ?_ rfl; simp [hR,zeroR,GRec.cells,GEntry.cells])
   ·have hl2 : 0 < p.length - (q + (k + m)) := by omega
    simp [zbM hT,zbM hT2,te_ok hT3,zcj,ze1,GRec.cells,setF,hl2,hpl,Nat.add_assoc]
    have hR : readR p = (zeroR,false) := by simp [readR,hT,hT2,hT3,hl]
    ((repeat refine dr ?_); rw [hr]; refine zaa rfl ?_ rfl; simp [hR,zeroR,GRec.cells,GEntry.cells])
  ·simp [zbM hT,zbM hT2,zuc hg hT3,zcj,ze1,GRec.cells,setF,hpl]
   have hR : readR p = (zeroR,false) := by simp [readR,hT,hT2,hT3,hg]
   ((repeat refine dr ?_); rw [hr]; refine zaa rfl ?_ rfl; simp [hR,zeroR,GRec.cells,GEntry.cells])
 by_cases k3 : kind = 3
 ·subst k3
  rcases zcg (p.drop q) with ⟨e,he,hT2⟩ | ⟨n,k,hT2,hk1,hk2⟩
  ·simp [zbM hT,zjE he hT2,zcj,GRec.cells,setF]
   have hR : readR p = (zeroR,false) := by simp [readR,hT,hT2,he]
   ((repeat refine dr ?_); rw [hr]; refine zaa rfl ?_ rfl; simp [hR,zeroR,GRec.cells,GEntry.cells])
  rw [List.length_drop] at hk2
  by_cases hl : q + k = p.length
  ·have hl2 : ¬ 0 < p.length - (q + k) := by omega
   simp [zbM hT,zbM hT2,zcj,GRec.cells,setF,hl2]
   have hR : readR p = ({ zeroR with k := 3,n := n },true) := by simp [readR,hT,hT2,hl]
   ((repeat refine dr ?_); rw [hr]; refine zaa rfl ?_ rfl; simp [hR,zeroR,GRec.cells,GEntry.cells])
  ·have hl2 : 0 < p.length - (q + k) := by omega
   simp [zbM hT,zbM hT2,zcj,GRec.cells,setF,hl2]
   have hR : readR p = (zeroR,false) := by simp [readR,hT,hT2,hl]
   ((repeat refine dr ?_); rw [hr]; refine zaa rfl ?_ rfl; simp [hR,zeroR,GRec.cells,GEntry.cells])
 ·by_cases hl : q = p.length
  ·have hl2 : ¬ 0 < p.length - q := by omega
   simp [zbM hT,zcj,GRec.cells,setF,k1,k2,k3,hl2]
   have hR : readR p = ({ zeroR with k := kind },true) := by simp [readR,hT,k1,k2,k3,hl]
   ((repeat refine dr ?_); rw [hr]; refine zaa rfl ?_ rfl; simp [hR,zeroR,GRec.cells,GEntry.cells])
  ·have hl2 : 0 < p.length - q := by omega
   simp [zbM hT,zcj,GRec.cells,setF,k1,k2,k3,hl2]
   have hR : readR p = (zeroR,false) := by simp [readR,hT,k1,k2,k3,hl]
   ((repeat refine dr ?_); rw [hr]; refine zaa rfl ?_ rfl; simp [hR,zeroR,GRec.cells,GEntry.cells])
end Go.Proofs.YtcpdgbncekdicaaGreat

namespace Go.Proofs.YtcpdgbncekdicaaGreat
open Go.Lift
theorem zlf (J : JN) (p : List UInt8) : recordJ J p = if (readR p).2 = true then (apJ J (readR p).1,decide (apE J (readR p).1 = 0)) else (J,false) := by
 rcases zcg p with ⟨e,he,hT⟩ | ⟨kind,q,hT,hq1,hq2⟩
 ·simp [recordJ,readR,hT,he]
 rcases zcg (p.drop q) with ⟨e,he,hT2⟩ | ⟨n,k,hT2,hk1,hk2⟩
 ·by_cases k1 : kind = 1
  ·simp [recordJ,readR,hT,hT2,he,k1]
  by_cases k2 : kind = 2
  ·simp [recordJ,readR,hT,hT2,he,k2]
  by_cases k3 : kind = 3
  ·simp [recordJ,readR,hT,hT2,he,k3]
  by_cases hl : q = p.length
  ·simp [recordJ,readR,hT,hT2,he,k1,k2,k3,hl,apJ,apE]
  ·simp [recordJ,readR,hT,hT2,he,k1,k2,k3,hl]
 have hN : ((q : Int) + (k : Int)).toNat = q + k := by omega
 by_cases k1 : kind = 1
 ·subst k1
  rcases zcg (p.drop (q + k)) with ⟨e,he,hT3⟩ | ⟨v,m,hT3,hm1,hm2⟩
  ·simp [recordJ,readR,hT,hT2,hT3,he,hN]
  by_cases hl : q + (k + m) = p.length
  ·have hl2 : (q : Int) + k + m = p.length := by omega
   simp [recordJ,readR,hT,hT2,hT3,hN,hl,hl2,apJ,apE,zeroR]
  ·have hl2 : ¬ (q : Int) + k + m = p.length := by omega
   simp [recordJ,readR,hT,hT2,hT3,hN,hl,hl2]
 by_cases k2 : kind = 2
 ·subst k2
  rcases hT3 : readE (p.drop (q + k)) with ⟨x,m,g⟩
  by_cases hg : g = 0
  ·subst hg
   obtain ⟨g1,g2,g3,_⟩ := zfW hT3
   obtain ⟨m,rfl⟩ := Int.eq_ofNat_of_zero_le (show 0 ≤ m by omega)
   by_cases hl : q + (k + m) = p.length
   ·have hl2 : (q : Int) + k + m = p.length := by omega
    simp [recordJ,readR,hT,hT2,hT3,hN,hl,hl2,apJ,apE,zeroR]
   ·have hl2 : ¬ (q : Int) + k + m = p.length := by omega
    simp [recordJ,readR,hT,hT2,hT3,hN,hl,hl2]
  ·simp [recordJ,readR,hT,hT2,hT3,hN,hg]
 by_cases k3 : kind = 3
 ·subst k3
  by_cases hl : q + k = p.length
  ·have hl2 : (q : Int) + k = p.length := by omega
   simp [recordJ,readR,hT,hT2,hN,hl,hl2,apJ,apE,zeroR]
  ·have hl2 : ¬ (q : Int) + k = p.length := by omega
   simp [recordJ,readR,hT,hT2,hN,hl,hl2]
 ·by_cases hl : q = p.length
  ·simp [recordJ,readR,hT,hT2,k1,k2,k3,hl,apJ,apE]
  ·simp [recordJ,readR,hT,hT2,k1,k2,k3,hl]
noncomputable def CQA := mkC [(157,rdrSp),(126,zdp)]
theorem zvM : zan Tryz.prog CQA := zay (zab ztc (zab zgt zar))
@[simp] theorem CQA_1 : CQA 157 = rdrSp := rfl
@[simp] theorem CQA_2 : CQA 126 = zdp := rfl
noncomputable def zjY := fam (fun i : JN × Nat × (List UInt8) => [V.ptr 0 0 0,.sl i.2.1 1 (zaf i.2.2)]) (fun i => [jnO i.1]) (fun i => (i.1.log.length ≤ 1000000000) ∧ (i.2.2.length ≤ 140737488355328)) (fun i => ⟨.bool (recordJ i.1 i.2.2).2,[jnO (recordJ i.1 i.2.2).1]⟩)
@[simp] theorem jnRecSp_eq {J : JN} {t : Nat} {p : List UInt8} (h1 : J.log.length ≤ 1000000000) (h2 : p.length ≤ 140737488355328) : zjY ([V.ptr 0 0 0,.sl t 1 (zaf p)]) ([jnO J]) = some (⟨.bool (recordJ J p).2,[jnO (recordJ J p).1]⟩) :=
 zai (by rintro ⟨a0,a1,a2⟩ ⟨b0,b1,b2⟩ h h' <;> simp at h h' <;> simp_all) (J,t,p) ⟨h1,h2⟩
theorem zpw : Lift.Spec Tryz.prog 133 zjY := by
 refine zah [] (C := CQA) zac zvM follows Tryz.func133 (by kernel_rfl) rfl (by kernel_rfl) rfl ?_
 rintro ⟨J,t,p⟩ ⟨h0,hp⟩
 try simp only at h0 hp
 refine ⟨by simp,?_⟩
 intro r hr
 have hp' : (p.length : Int) ≤ 140737488355328 := by omega
 have hR := zlf J p
 obtain ⟨x,hx⟩ : ∃ x,x = (readR p).1 := ⟨_,rfl⟩
 rw [← hx] at hR
 cases hb : (readR p).2 with
 | false =>
  rw [hb,if_neg (by decide)] at hR
  simp [hp',hb,← hx,GRec.cells,GEntry.cells]
  rw [hr]
  refine retC [] [.inl 0] [] rfl ?_
  simp [hR]
 | true =>
  rw [hb,if_pos rfl] at hR
  simp [hp',hb,← hx,h0,GRec.cells,GEntry.cells]
  rw [hr]
  refine retC [] [.inl 0] [] rfl ?_
  simp [hR]
noncomputable def CQB := mkC [(100,zfG)]
theorem zry : zan Tryz.prog CQB := zay (zab zkv zar)
@[simp] theorem CQB_1 : CQB 100 = zfG := rfl
theorem zn0 : GEntry.ok ⟨0,0,0,0,0,0,0,0,0⟩ := by unfold GEntry.ok In64; simp only; omega
theorem okA {t v : Int} (h2 : In64 t) (h3 : In64 v) : GRec.ok ⟨1,t,v,⟨0,0,0,0,0,0,0,0,0⟩⟩ := ⟨in1,h2,h3,zn0⟩
theorem okE {t : Int} {e : GEntry} (h2 : In64 t) (h3 : GEntry.ok e) : GRec.ok ⟨2,t,0,e⟩ := ⟨in2,h2,in0,h3⟩
theorem okC {n : Int} (h2 : In64 n) : GRec.ok ⟨3,0,n,⟨0,0,0,0,0,0,0,0,0⟩⟩ := ⟨in3,in0,h2,zn0⟩
theorem wrA (J : JN) (t v : Int) : wrJ J ⟨1,t,v,⟨0,0,0,0,0,0,0,0,0⟩⟩ = zaq J t v := by simp [wrJ,apE,apJ,zaq,recB,recA]
theorem wrE (J : JN) (t : Int) (e : GEntry) : wrJ J ⟨2,t,0,e⟩ = zaQ J t e := by simp [wrJ,apE,apJ,zaQ,recB,recE]
theorem wrC (J : JN) (n : Int) : wrJ J ⟨3,0,n,⟨0,0,0,0,0,0,0,0,0⟩⟩ = cutJ J n := by simp [wrJ,apE,apJ,cutJ,recB,recC]
noncomputable def zdH := fam (fun i : JN × Int × Int => [V.ptr 0 0 0,.int .i64 i.2.1,.int .i64 i.2.2]) (fun i => [jnO i.1]) (fun i => (i.1.b.length ≤ 1000000000) ∧ (In64 i.2.1) ∧ (In64 i.2.2)) (fun i => ⟨.int .i64 (stE i.1 i.2.1 i.2.2),[jnO (zaq i.1 i.2.1 i.2.2)]⟩)
@[simp] theorem jnSetTermSp_eq {J : JN} {t v : Int} (h1 : J.b.length ≤ 1000000000) (h2 : In64 t) (h3 : In64 v) : zdH ([V.ptr 0 0 0,.int .i64 t,.int .i64 v]) ([jnO J]) = some (⟨.int .i64 (stE J t v),[jnO (zaq J t v)]⟩) :=
 zai (by rintro ⟨a0,a1,a2⟩ ⟨b0,b1,b2⟩ h h' <;> simp at h h' <;> simp_all) (J,t,v) ⟨h1,h2,h3⟩
theorem zim : Lift.Spec Tryz.prog 65 zdH := by
 refine zah [] (C := CQB) zac zry follows Tryz.func65 (by kernel_rfl) rfl (by kernel_rfl) rfl ?_
 rintro ⟨J,t,v⟩ ⟨h1,h2,h3⟩
 try simp only at h1 h2 h3
 refine ⟨by simp,?_⟩
 intro r hr
 simp [h1,okA h2 h3,wrA]
 rw [hr]
 refine retC [] [.inl 0] [] rfl ?_
 simp [apE]
noncomputable def zeo := fam (fun i : JN × Int × GEntry => [V.ptr 0 0 0,.int .i64 i.2.1,zaD i.2.2]) (fun i => [jnO i.1]) (fun i => (i.1.b.length ≤ 1000000000) ∧ (i.1.log.length ≤ 1000000000) ∧ (In64 i.2.1) ∧ (GEntry.ok i.2.2)) (fun i => ⟨.int .i64 (adE i.1 i.2.1 i.2.2),[jnO (zaQ i.1 i.2.1 i.2.2)]⟩)
@[simp] theorem jnAppendSp_eq {J : JN} {t : Int} {e : GEntry} (h1 : J.b.length ≤ 1000000000) (h2 : J.log.length ≤ 1000000000) (h3 : In64 t) (h4 : GEntry.ok e) : zeo ([V.ptr 0 0 0,.int .i64 t,zaD e]) ([jnO J]) = some (⟨.int .i64 (adE J t e),[jnO (zaQ J t e)]⟩) :=
 zai (by rintro ⟨a0,a1,a2⟩ ⟨b0,b1,b2⟩ h h' <;> simp at h h' <;> simp_all) (J,t,e) ⟨h1,h2,h3,h4⟩
theorem zjU : Lift.Spec Tryz.prog 98 zeo := by
 refine zah [] (C := CQB) zac zry follows Tryz.func98 (by kernel_rfl) rfl (by kernel_rfl) rfl ?_
 rintro ⟨J,t,e⟩ ⟨h1,h0,h2,h3⟩
 try simp only at h1 h0 h2 h3
 refine ⟨by simp,?_⟩
 intro r hr
 simp [h1,h0,okE h2 h3,wrE,GEntry.cells]
 rw [hr]
 refine retC [] [.inl 0] [] rfl ?_
 simp [apE]
noncomputable def zgP := fam (fun i : JN × Int => [V.ptr 0 0 0,.int .i64 i.2]) (fun i => [jnO i.1]) (fun i => (i.1.b.length ≤ 1000000000) ∧ (i.1.log.length ≤ 1000000000) ∧ (In64 i.2)) (fun i => ⟨.int .i64 (cuE i.1 i.2),[jnO (cutJ i.1 i.2)]⟩)
@[simp] theorem jnCutASp_eq {J : JN} {n : Int} (h1 : J.b.length ≤ 1000000000) (h2 : J.log.length ≤ 1000000000) (h3 : In64 n) : zgP ([V.ptr 0 0 0,.int .i64 n]) ([jnO J]) = some (⟨.int .i64 (cuE J n),[jnO (cutJ J n)]⟩) :=
 zai (by rintro ⟨a0,a1⟩ ⟨b0,b1⟩ h h' <;> simp at h h' <;> simp_all) (J,n) ⟨h1,h2,h3⟩
theorem zmc : Lift.Spec Tryz.prog 105 zgP := by
 refine zah [] (C := CQB) zac zry follows Tryz.func105 (by kernel_rfl) rfl (by kernel_rfl) rfl ?_
 rintro ⟨J,n⟩ ⟨h1,h0,h2⟩
 try simp only at h1 h0 h2
 refine ⟨by simp,?_⟩
 intro r hr
 simp [h1,h0,okC h2,wrC]
 rw [hr]
 refine retC [] [.inl 0] [] rfl ?_
 simp [apE]
end Go.Proofs.YtcpdgbncekdicaaGreat

namespace Go.Proofs.YtcpdgbncekdicaaGreat
open Go.Lift
theorem zt2 {l p : List UInt8} {n : Nat} (h : frT 8 l = (p,(n : Int),0)) : n = (putB 8 [] p).length := by
 rcases zhH 8 l with ⟨e,he,hT,hL⟩ | ⟨m,k,hL,hn,hk1,hk2,hk,⟨rest,hr1,hr2⟩,hc⟩
 ·rw [hT] at h
  simp only [Prod.mk.injEq] at h
  exact absurd h.2.2 he
 rcases hc with ⟨_,hT⟩ | ⟨_,_,hT⟩ | ⟨hs,_,hT⟩
 ·rw [hT] at h; simp at h
 ·rw [hT] at h; simp at h
 ·rw [hT] at h
  simp only [Prod.mk.injEq,and_true] at h
  obtain ⟨h1,h2⟩ := h
  have hpl : p.length = m := by rw [← h1,List.length_take,List.length_drop]; omega
  rw [zjd (by omega),zuN,hpl,← hr2]
  omega
theorem zhx (key : Int) (b : List UInt8) : ∀ (f at_ : Nat) (acc : List (List UInt8)),allGo key f b at_ acc = (acc ++ (allGo key f b at_ []).1,(allGo key f b at_ []).2)
 | 0,at_,acc => by simp [allGo]
 | f + 1,at_,acc => by
  rw [allGo]
  conv => rhs; rw [allGo]
  split
  ·rw [zhx key b f _ (acc ++ _)]
   conv => rhs; rw [zhx key b f _ ([] ++ _)]
   simp
  ·simp
noncomputable def fromL (b : List UInt8) (n : Nat) : List (List UInt8) := (allAt 8 b n []).1
theorem zpM (b : List UInt8) : fromL b 0 = (allT 8 b).1 := by rw [zuz]; rfl
theorem zqt {b : List UInt8} {n : Nat} {e : Int} (h : n ≤ b.length) (he : ¬ e = 0) (hT : frT 8 (b.drop n) = ([],0,e)) : fromL b n = [] := by unfold fromL; rw [zrK h he hT]
theorem zss {b : List UInt8} {n m : Nat} {p : List UInt8} (h : n ≤ b.length) (hm : 1 ≤ m) (hle : n + m ≤ b.length) (hT : frT 8 (b.drop n) = (p,(m : Int),0)) : fromL b n = p :: fromL b (n + m) := by
 unfold fromL
 rw [ztk h hm hle hT]
 unfold allAt
 rw [zhx]
 rfl
noncomputable def CNB := mkC [(58,zcU),(134,zfE),(124,zcA),(132,zgU),(133,zjY)]
theorem zvN : zan Tryz.prog CNB := zay (zab zgb (zab zk1 (zab zed (zab zlL (zab zpw zar)))))
@[simp] theorem CNB_1 : CNB 58 = zcU := rfl
@[simp] theorem CNB_2 : CNB 134 = zfE := rfl
@[simp] theorem CNB_3 : CNB 124 = zcA := rfl
@[simp] theorem CNB_4 : CNB 132 = zgU := rfl
@[simp] theorem CNB_5 : CNB 133 = zjY := rfl
noncomputable def zgJ := fam (fun _ : JN => [V.ptr 0 0 0]) (fun i => [jnO i]) (fun i => (i.b.length ≤ 1000000000) ∧ (i.d ≤ i.b.length)) (fun i => ⟨.tup [],[jnO (readJ i.b i.d)]⟩)
@[simp] theorem jnReadSp_eq {J : JN} (h1 : J.b.length ≤ 1000000000) (h2 : J.d ≤ J.b.length) : zgJ ([V.ptr 0 0 0]) ([jnO J]) = some (⟨.tup [],[jnO (readJ J.b J.d)]⟩) :=
 zai (by intro a b h h' <;> simp at h h' <;> simp_all) J ⟨h1,h2⟩
def jdSt (b : List UInt8) (i : Nat × JN) : St := mkSt [(0,.ptr 0 0 0),(2,.own 1 0 b.length),(3,.int .i64 i.1)] [(0,jnO i.2),(1,rowOf b)] 2
set_option maxHeartbeats 4000000 in
theorem zlP : Lift.Spec Tryz.prog 114 zgJ := by
 refine zah [] (C := CNB) zac zvN follows Tryz.func114 (by kernel_rfl) rfl (by kernel_rfl) rfl ?_
 rintro J ⟨h1,h2⟩
 try simp only at h1 h2
 refine ⟨by simp,?_⟩
 intro r hr
 obtain ⟨b,hb⟩ : ∃ b,b = J.b := ⟨_,rfl⟩
 obtain ⟨d,hd⟩ : ∃ d,d = J.d := ⟨_,rfl⟩
 rw [← hb] at h1 h2
 rw [← hd] at h2
 have c3 : b.length ≤ 140737488355328 := by omega
 have hend : ∀ (K : JN) (n : Nat),zdn (allT 8 b).1 ⟨b,d,0,-1,[]⟩ 0 = (K,n) → n ≤ b.length → readJ b d = { K with b := b.take n,d := min d n } := by
  intro K n h h1
  unfold readJ zrd
  rw [h]
  simp only [if_neg (show ¬ b.length < n by omega)]
 simp only [← hb,← hd] at hr
 simp [← hb,← hd,c3]
 refine zaz (jdSt b) (fun i => i.1 ≤ b.length ∧ zdn (fromL b i.1) i.2 i.1 = zdn (allT 8 b).1 ⟨b,d,0,-1,[]⟩ 0 ∧ i.2.b = b ∧ i.2.d = d ∧ i.2.log.length ≤ i.1) (fun i => b.length - i.1) (0,⟨b,d,0,-1,[]⟩) ?_ ⟨Nat.zero_le _,by rw [zpM],rfl,rfl,Nat.le_refl _⟩ ?_
 ·refine (zlD _ 0 2 56 10).trans ((zfO [0] _).trans (zaF [.inl 0,.inr 2] ?_ ?_ ?_ ?_)) <;> simp [rowOf]
 ·rintro ⟨n,K⟩ ⟨hi,g1,g2,g3,g4⟩
  simp only at hi g1 g2 g3 g4
  have w5 : K.b.length ≤ 140737488355328 := by rw [g2]; omega
  have w6 : K.d ≤ K.b.length := by rw [g2,g3]; omega
  have hdl : ((b.length - n : Nat) : Int) ≤ 140737488355328 := by omega
  have e := zl9 (t := 2) (b := b.drop n) (key := 8) (by simp) in8 (by rw [List.length_drop]; omega)
  rcases zrD 8 (b.drop n) with ⟨x,he,hT⟩ | ⟨p,m,hT,hm9,hml,hpl⟩
  ·rw [hT,ze4 _ _ _ he] at e
   rw [zqt hi he hT,zdn] at g1
   have hE := hend _ _ g1.symm hi
   rw [hE] at hr
   have ht2 : ¬ (K.b.length : Int) < (n : Int) := by rw [g2]; omega
   simp [jdSt,rowOf,e,he,hi,zic,w5,w6,ht2]
   rw [hr]
   refine retC [] [.inl 0] [] rfl ?_
   simp [g2,g3]
  ·rw [hT,zno] at e
   rw [List.length_drop] at hml
   have hB := zt2 hT
   rw [zss hi (by omega) (by omega) hT] at g1
   have w7 : IntKind.i64.wrap ((n : Int) + (m : Int)) = (n : Int) + (m : Int) := w64
   have q1 : K.log.length ≤ 1000000000 := by omega
   have q2 : p.length ≤ 140737488355328 := by omega
   obtain ⟨r1,r2⟩ := zkn K p
   have r3 := zmV K p
   cases hrec : (recordJ K p).2 with
   | true =>
    rw [zdn,if_pos hrec,← hB] at g1
    simp [jdSt,rowOf,e,hi,q1,q2,hrec,w7]
    refine Again.mk (n + m,(recordJ K p).1) ⟨by simp only; omega,g1,r1.trans g2,r2.trans g3,by simp only; omega⟩ (by simp only; omega) ?_
    refine (zfO [0] _).trans (zaF [.inl 0,.inr 2] ?_ ?_ ?_ ?_) <;> simp [rowOf,w7]
   | false =>
    rw [zdn,if_neg (by rw [hrec]; decide)] at g1
    have hE := hend _ _ g1.symm hi
    rw [hE] at hr
    have v5 : (recordJ K p).1.b.length ≤ 140737488355328 := by rw [r1]; exact w5
    have v6 : (recordJ K p).1.d ≤ (recordJ K p).1.b.length := by rw [r1,r2]; exact w6
    have ht2 : ¬ ((recordJ K p).1.b.length : Int) < (n : Int) := by rw [r1,g2]; omega
    simp [jdSt,rowOf,e,hi,q1,q2,hrec,zic,v5,v6,ht2]
    rw [hr]
    refine retC [] [.inl 0] [] rfl ?_
    simp [r1,r2,g2,g3]
noncomputable def CNC := mkC [(113,zdE),(114,zgJ)]
theorem zvH : zan Tryz.prog CNC := zay (zab zgD (zab zlP zar))
@[simp] theorem CNC_1 : CNC 113 = zdE := rfl
@[simp] theorem CNC_2 : CNC 114 = zgJ := rfl
noncomputable def zfh := fam (fun i : JN × Int => [V.ptr 0 0 0,.int .i64 i.2]) (fun i => [jnO i.1]) (fun i => (i.1.b.length ≤ 1000000000) ∧ (i.1.d ≤ i.1.b.length)) (fun i => ⟨.tup [],[jnO (znD i.1 i.2)]⟩)
@[simp] theorem jnCrashSp_eq {J : JN} {keep : Int} (h1 : J.b.length ≤ 1000000000) (h2 : J.d ≤ J.b.length) : zfh ([V.ptr 0 0 0,.int .i64 keep]) ([jnO J]) = some (⟨.tup [],[jnO (znD J keep)]⟩) :=
 zai (by rintro ⟨a0,a1⟩ ⟨b0,b1⟩ h h' <;> simp at h h' <;> simp_all) (J,keep) ⟨h1,h2⟩
theorem zld : Lift.Spec Tryz.prog 87 zfh := by
 refine zah [] (C := CNC) zac zvH follows Tryz.func87 (by kernel_rfl) rfl (by kernel_rfl) rfl ?_
 rintro ⟨J,keep⟩ ⟨h1,h2⟩
 try simp only at h1 h2
 refine ⟨by simp,?_⟩
 intro r hr
 have c1 : J.b.length ≤ 140737488355328 := by omega
 obtain ⟨d,hd⟩ : ∃ d,d = zcW J.b.length J.d keep := ⟨_,rfl⟩
 obtain ⟨b,hb⟩ : ∃ b,b = J.b.take d := ⟨_,rfl⟩
 have hdl : d ≤ J.b.length := by rw [hd]; unfold zcW; omega
 have hbl : b.length = d := by rw [hb,List.length_take]; omega
 have k6 := zlw (l := J.b) (d := J.d) (keep := keep) c1 h2
 rw [← hd,← hb] at k6
 have c2 : b.length ≤ 1000000000 := by omega
 have c3 : d ≤ b.length := by omega
 have hres : znD J keep = readJ b d := by rw [znD,← hd,← hb]
 simp only [hres] at hr
 simp [k6,c2,c3]
 rw [hr]
 refine retC [] [.inl 0] [] rfl ?_
 simp
end Go.Proofs.YtcpdgbncekdicaaGreat

namespace Go.Proofs.YtcpdgbncekdicaaGreat
open Go.Lift
noncomputable def zg0 := fam (fun _ : JN => [V.ptr 0 0 0]) (fun i => [jnO i]) (fun _ => True) (fun i => ⟨.int .i64 i.term,[jnO i]⟩)
@[simp] theorem jnTermSp_eq {J : JN}  : zg0 ([V.ptr 0 0 0]) ([jnO J]) = some (⟨.int .i64 J.term,[jnO J]⟩) :=
 zai (by intro a b h h' <;> simp at h h' <;> simp_all) J trivial
theorem zlS : Lift.Spec Tryz.prog 43 zg0 := by
 refine zah [] (C := C0) zac C0_ok follows Tryz.func43 (by kernel_rfl) rfl (by kernel_rfl) rfl ?_
 rintro J _
 refine ⟨by simp,?_⟩
 intro r hr
 simp
 rw [hr]
 refine retC [] [.inl 0] [] rfl ?_
 simp
noncomputable def zgK := fam (fun _ : JN => [V.ptr 0 0 0]) (fun i => [jnO i]) (fun _ => True) (fun i => ⟨.int .i64 i.vote,[jnO i]⟩)
@[simp] theorem jnVoteSp_eq {J : JN}  : zgK ([V.ptr 0 0 0]) ([jnO J]) = some (⟨.int .i64 J.vote,[jnO J]⟩) :=
 zai (by intro a b h h' <;> simp at h h' <;> simp_all) J trivial
theorem zl6 : Lift.Spec Tryz.prog 44 zgK := by
 refine zah [] (C := C0) zac C0_ok follows Tryz.func44 (by kernel_rfl) rfl (by kernel_rfl) rfl ?_
 rintro J _
 refine ⟨by simp,?_⟩
 intro r hr
 simp
 rw [hr]
 refine retC [] [.inl 0] [] rfl ?_
 simp
noncomputable def zfR := fam (fun _ : JN => [V.ptr 0 0 0]) (fun i => [jnO i]) (fun _ => True) (fun i => ⟨.int .i64 i.log.length,[jnO i]⟩)
@[simp] theorem jnLenSp_eq {J : JN}  : zfR ([V.ptr 0 0 0]) ([jnO J]) = some (⟨.int .i64 J.log.length,[jnO J]⟩) :=
 zai (by intro a b h h' <;> simp at h h' <;> simp_all) J trivial
theorem zjj : Lift.Spec Tryz.prog 62 zfR := by
 refine zah [] (C := C0) zac C0_ok follows Tryz.func62 (by kernel_rfl) rfl (by kernel_rfl) rfl ?_
 rintro J _
 refine ⟨by simp,?_⟩
 intro r hr
 simp
 rw [hr]
 refine retC [] [.inl 0] [] rfl ?_
 simp
def noteE (n : Int) : GEntry := ⟨16,0,-1,-1,-1,0,0,0,n % 1000⟩
theorem znj (n : Int) : GEntry.ok (noteE n) := by
 unfold GEntry.ok noteE In64
 simp only
 omega
theorem zf4 (n : Int) : zbj (noteE n) = true := by
 have h1 : 0 ≤ n % 1000 := by omega
 have h2 : n % 1000 ≤ 1000000 := by omega
 simp [zbj,fitE,inR,rngK,inB,twB,noteE]
 try omega
noncomputable def ziZ := fam (fun i : Int => [V.int .i64 i]) (fun _ => []) (fun _ => True) (fun i => ⟨zaD (noteE i),[]⟩)
@[simp] theorem noteSp_eq {n : Int}  : ziZ ([V.int .i64 n]) ([]) = some (⟨zaD (noteE n),[]⟩) :=
 zai (by intro a b h h' <;> simp at h h' <;> simp_all) n trivial
noncomputable def CNE := mkC [(13,modSp)]
theorem zvU : zan Tryz.prog CNE := zay (zab zjq zar)
@[simp] theorem CNE_1 : CNE 13 = modSp := rfl
theorem zmC (J : JN) (p : List UInt8) : (putJ J p).b.length ≤ J.b.length + 65600 := by
 have := ztR p
 unfold putJ; simp only [List.length_append]; omega
theorem zcp (J : JN) (t v : Int) : (zaq J t v).b.length ≤ J.b.length + 65600 := by
 unfold zaq
 split
 ·have := zmC (stJ J t v) (recA t v); rw [stJ_b] at this; exact this
 ·omega
theorem zdD (J : JN) (t : Int) (e : GEntry) : (zaQ J t e).b.length ≤ J.b.length + 65600 := by
 unfold zaQ
 split
 ·have := zmC (adJ J t e) (recE t e); rw [adJ_b] at this; exact this
 ·omega
theorem zmZ (J : JN) (n : Int) : (cutJ J n).b.length ≤ J.b.length + 65600 := by
 unfold cutJ
 split
 ·have := zmC (cuJ J n) (recC n); rw [cuJ_b] at this; exact this
 ·omega
@[simp] theorem zql (J : JN) : (syncJ J).b = J.b := id rfl
@[simp] theorem syncJ_d (J : JN) : (syncJ J).d = J.b.length := id rfl
@[simp] theorem zbm (J : JN) : (syncJ J).term = J.term := id rfl
@[simp] theorem ziX (J : JN) : (syncJ J).vote = J.vote := id rfl
@[simp] theorem zbq (J : JN) : (syncJ J).log = J.log := id rfl
@[simp] theorem syncJ_fold (J : JN) : (⟨J.b,J.b.length,J.term,J.vote,J.log⟩ : JN) = syncJ J := rfl
@[simp] theorem zeroJ_fold : (⟨[],0,0,-1,[]⟩ : JN) = zeroJ := rfl
@[simp] theorem zeroJ_b : zeroJ.b = [] := id rfl
@[simp] theorem zeroJ_d : zeroJ.d = 0 := id rfl
@[simp] theorem zeroJ_term : zeroJ.term = 0 := id rfl
@[simp] theorem zeroJ_vote : zeroJ.vote = -1 := id rfl
@[simp] theorem zeroJ_log : zeroJ.log = [] := id rfl
theorem zud : In64 2 := by unfold In64; omega
noncomputable def grow0 : JN × Nat := (syncJ (zaq zeroJ 1 0),0)
def outL (l : List Int) : List GLogged := l.map fun x => ⟨1,noteE x⟩
@[simp] theorem outL_length (a : List Int) : (outL a).length = a.length := by simp [outL]
structure GrowI (p : JN × Nat) (l : List Int) : Prop where
 is : ∃ s,Grown p.1 (l.map noteE) s ∧ p.2 ≤ s
 bd : p.1.b.length ≤ 65600 * (l.length + 1)
theorem GrowI.zero : GrowI grow0 [] := ⟨⟨0,Grown.zero,Nat.le_refl _⟩,by
 have := zcp zeroJ 1 0
 simpa [grow0] using this⟩
theorem GrowI.next {p : JN × Nat} {l : List Int} (h : GrowI p l) (hl : l.length < 4096) (x : Int) : GrowI (zaQ p.1 1 (noteE x),p.2) (l ++ [x]) := by
 obtain ⟨⟨s,h1,h2⟩,h3⟩ := h
 have := zdD p.1 1 (noteE x)
 refine ⟨⟨s,?_,h2⟩,by simp only [List.length_append,List.length_cons,List.length_nil]; omega⟩
 rw [List.map_append]
 exact h1.append (by simpa using hl) (znj x) (zf4 x)
theorem GrowI.log {p : JN × Nat} {l : List Int} (h : GrowI p l) (hl : l.length ≤ 4096) : p.1.term = 1 ∧ p.1.vote = 0 ∧ p.1.log = outL l := by
 obtain ⟨⟨s,h1,h2⟩,h3⟩ := h
 have := h1.is (by simpa using hl)
 rw [List.map_map] at this
 exact this
end Go.Proofs.YtcpdgbncekdicaaGreat

namespace Go.Proofs.YtcpdgbncekdicaaGreat
open Go.Lift
set_option maxRecDepth 100000
theorem zeq (J : JN) (n : Int) : (cutJ J n).log = if cuE J n = 0 then J.log.take n.toNat else J.log := by
 unfold cutJ
 by_cases h : cuE J n = 0
 ·rw [if_pos h,if_pos h]; unfold cuJ; rw [if_pos h]; rfl
 ·rw [if_neg h,if_neg h]
end Go.Proofs.YtcpdgbncekdicaaGreat

namespace Go.Proofs.YtcpdgbncekdicaaGreat
open Go.Lift
set_option maxRecDepth 100000
theorem zb4 (J : JN) (n : Int) : (cutJ J n).term = J.term := by
 unfold cutJ cuJ
 repeat' split
 all_goals rfl
theorem zff (J : JN) (n : Int) : (cutJ J n).vote = J.vote := by
 unfold cutJ cuJ
 repeat' split
 all_goals rfl
theorem NumJ.append {J : JN} (h : NumJ J) (t : Int) (e : GEntry) : NumJ (zaQ J t e) := by
 refine ⟨?_,?_,?_,?_⟩ <;> simp only [zbo,zde]
 ·exact h.t0
 ·exact h.t1
 ·exact h.v0
 ·exact h.v1
theorem NumJ.cut {J : JN} (h : NumJ J) (n : Int) : NumJ (cutJ J n) := by
 refine ⟨?_,?_,?_,?_⟩ <;> simp only [zb4,zff]
 ·exact h.t0
 ·exact h.t1
 ·exact h.v0
 ·exact h.v1
theorem NumJ.sync {J : JN} (h : NumJ J) : NumJ (syncJ J) := ⟨h.t0,h.t1,h.v0,h.v1⟩
structure MadeJ (J : JN) (n : Nat) : Prop where
 hist : ∃ rs s,Hist J rs s
 num : NumJ J
 bd : J.b.length ≤ 65600 * n
theorem MadeJ.zero : MadeJ zeroJ 0 := ⟨⟨_,_,Hist.zero⟩,NumJ.zero,by simp⟩
theorem MadeJ.setTerm {J : JN} {n : Nat} (h : MadeJ J n) {t v : Int} (h1 : In64 t) (h2 : In64 v) : MadeJ (zaq J t v) (n + 1) := by
 obtain ⟨⟨_,_,g1⟩,g2,g3⟩ := h
 have := zcp J t v
 exact ⟨⟨_,_,g1.setTerm h1 h2⟩,g2.setTerm t v,by omega⟩
theorem MadeJ.append {J : JN} {n : Nat} (h : MadeJ J n) {t : Int} {e : GEntry} (h1 : In64 t) (h2 : GEntry.ok e) : MadeJ (zaQ J t e) (n + 1) := by
 obtain ⟨⟨_,_,g1⟩,g2,g3⟩ := h
 have := zdD J t e
 exact ⟨⟨_,_,g1.append h1 h2⟩,g2.append t e,by omega⟩
theorem MadeJ.cut {J : JN} {n : Nat} (h : MadeJ J n) {k : Int} (h1 : In64 k) : MadeJ (cutJ J k) (n + 1) := by
 obtain ⟨⟨_,_,g1⟩,g2,g3⟩ := h
 have := zmZ J k
 exact ⟨⟨_,_,g1.cut h1⟩,g2.cut k,by omega⟩
theorem MadeJ.sync {J : JN} {n : Nat} (h : MadeJ J n) : MadeJ (syncJ J) n := by
 obtain ⟨⟨_,_,g1⟩,g2,g3⟩ := h
 exact ⟨⟨_,_,g1.sync⟩,g2.sync,g3⟩
end Go.Proofs.YtcpdgbncekdicaaGreat

namespace Go.Proofs.YtcpdgbncekdicaaGreat
open Go.Lift
set_option maxRecDepth 100000
end Go.Proofs.YtcpdgbncekdicaaGreat

namespace Go.Proofs.YtcpdgbncekdicaaGreat
open Go.Lift
set_option maxRecDepth 100000
theorem zkE {J : JN} (h : J.log.length ≤ 4096) (p : List UInt8) : (recordJ J p).1.log.length ≤ 4096 := by
 have hst : ∀ t v,(stJ J t v).log.length ≤ 4096 := by intro t v; unfold stJ; split <;> exact h
 have had : ∀ t e,(adJ J t e).log.length ≤ 4096 := by
  intro t e; unfold adJ; split
  ·next h0 => have := (zt5 h0).2.2.2.1; simp; omega
  ·exact h
 have hcu : ∀ n,(cuJ J n).log.length ≤ 4096 := by
  intro n; unfold cuJ; split
  ·simp; omega
  ·exact h
 unfold recordJ
 repeat' split
 all_goals first | exact h | exact hst _ _ | exact had _ _ | exact hcu _
theorem zkx : ∀ (rs : List (List UInt8)) (J : JN),J.log.length ≤ 4096 → (finR rs J).log.length ≤ 4096
 | [],_,h => h
 | p :: rs,J,h => zkx rs _ (zkE h p)
theorem Hist.log4 {J : JN} {rs : List (List UInt8)} {s : Nat} (h : Hist J rs s) : J.log.length ≤ 4096 := by
 rw [h.eq,zsq]; exact zkx rs zeroJ (by simp)
structure LiveJ (J : JN) (n : Nat) : Prop where
 hist : ∃ rs s,Hist J rs s
 bd : J.b.length ≤ 65600 * n
theorem LiveJ.log {J : JN} {n : Nat} (h : LiveJ J n) : J.log.length ≤ 4096 := by obtain ⟨⟨_,_,h1⟩,_⟩ := h; exact h1.log4
theorem LiveJ.setTerm {J : JN} {n : Nat} (h : LiveJ J n) {t v : Int} (h1 : In64 t) (h2 : In64 v) : LiveJ (zaq J t v) (n + 1) := by
 obtain ⟨⟨_,_,g1⟩,g3⟩ := h
 have := zcp J t v
 exact ⟨⟨_,_,g1.setTerm h1 h2⟩,by omega⟩
theorem LiveJ.append {J : JN} {n : Nat} (h : LiveJ J n) {t : Int} {e : GEntry} (h1 : In64 t) (h2 : GEntry.ok e) : LiveJ (zaQ J t e) (n + 1) := by
 obtain ⟨⟨_,_,g1⟩,g3⟩ := h
 have := zdD J t e
 exact ⟨⟨_,_,g1.append h1 h2⟩,by omega⟩
theorem LiveJ.cut {J : JN} {n : Nat} (h : LiveJ J n) {k : Int} (h1 : In64 k) : LiveJ (cutJ J k) (n + 1) := by
 obtain ⟨⟨_,_,g1⟩,g3⟩ := h
 have := zmZ J k
 exact ⟨⟨_,_,g1.cut h1⟩,by omega⟩
theorem LiveJ.sync {J : JN} {n : Nat} (h : LiveJ J n) : LiveJ (syncJ J) n := by
 obtain ⟨⟨_,_,g1⟩,g3⟩ := h
 exact ⟨⟨_,_,g1.sync⟩,g3⟩
theorem NumJ.recordJ {J : JN} (h : NumJ J) (p : List UInt8) : NumJ (recordJ J p).1 := by
 have hst : ∀ t v,NumJ (stJ J t v) := by
  intro t v; unfold stJ; split
  ·next h0 => have := zr7 h0; exact ⟨by simp only; omega,by simp only; omega,by simp only; omega,by simp only; omega⟩
  ·exact h
 have had : ∀ t e,NumJ (adJ J t e) := by
  intro t e; unfold adJ; split
  ·exact ⟨h.t0,h.t1,h.v0,h.v1⟩
  ·exact h
 have hcu : ∀ n,NumJ (cuJ J n) := by
  intro n; unfold cuJ; split
  ·exact ⟨h.t0,h.t1,h.v0,h.v1⟩
  ·exact h
 unfold Proofs.YtcpdgbncekdicaaGreat.recordJ
 repeat' split
 all_goals first | exact h | exact hst _ _ | exact had _ _ | exact hcu _
theorem NumJ.finR : ∀ (rs : List (List UInt8)) {J : JN},NumJ J → NumJ (finR rs J)
 | [],_,h => h
 | p :: rs,J,h => NumJ.finR rs (h.recordJ p)
theorem LiveJ.num {J : JN} {n : Nat} (h : LiveJ J n) : NumJ J := by
 obtain ⟨⟨rs,s,g⟩,_⟩ := h
 have := NumJ.finR rs NumJ.zero
 rw [g.eq]
 exact ⟨this.t0,this.t1,this.v0,this.v1⟩
theorem LiveJ.zero : LiveJ zeroJ 0 := ⟨⟨_,_,Hist.zero⟩,by simp⟩
theorem LiveJ.more {J : JN} {n m : Nat} (h : LiveJ J n) (hm : n ≤ m) : LiveJ J m := ⟨h.hist,by have := h.bd; omega⟩
end Go.Proofs.YtcpdgbncekdicaaGreat

namespace Go.Proofs.YtcpdgbncekdicaaGreat
open Go.Lift
theorem zrJ (a b c d e f g h i : Int) : V.agg [.int .i64 a,.int .i64 b,.int .i64 c,.int .i64 d,.int .i64 e,.int .i64 f,.int .i64 g,.int .i64 h,.int .i64 i] = zaD ⟨a,b,c,d,e,f,g,h,i⟩ := rfl
attribute [simp low] zrJ
end Go.Proofs.YtcpdgbncekdicaaGreat

namespace Go.Proofs.YtcpdgbncekdicaaGreat
open Go.Lift
set_option maxRecDepth 100000
structure RN where
 J : JN
 id : Int
 n : Int
 role : Int
 commit : Int
 votes : List Bool
 next : List Int
 mt : List Int
def othL (id n : Int) : List Int := idxTo (fun i => decide ((i : Int) ≠ id)) n.toNat
noncomputable def termR (R : RN) (t v : Int) : RN := { R with J := syncJ (zaq R.J t v) }
def nxR (R : RN) (to : Int) : Int := R.next.getD to.toNat 0
def appM (R : RN) (to : Int) : GMessage := ⟨3,R.id,to,R.J.term,nxR R to,(logAt R.J.log (nxR R to - 1)).Term,R.commit,false,R.J.log.drop (nxR R to).toNat⟩
def zcE (R : RN) : List GMessage := (othL R.id R.n).map (appM R)
def leadR (R : RN) : RN := { R with role := 3,next := List.replicate R.n.toNat (R.J.log.length : Int),mt := List.replicate R.n.toNat 0 }
def stN (R : RN) (m : Int) : Nat := ((othL R.id R.n).filter fun i => decide (m ≤ R.mt.getD i.toNat 0)).length
def advGo (R : RN) : Nat → Int
 | 0 => R.commit
 | k + 1 => if (k : Int) + 1 ≤ R.commit then R.commit else if (logAt R.J.log k).Term ≠ R.J.term then R.commit else if R.n < 2 * (1 + (stN R ((k : Int) + 1) : Int)) then (k : Int) + 1 else advGo R k
def advR (R : RN) : RN := { R with commit := advGo R R.J.log.length }
def cntT (l : List Bool) : Nat := (l.filter id).length
@[simp] theorem JN.eta (J : JN) : (⟨J.b,J.d,J.term,J.vote,J.log⟩ : JN) = J := rfl
noncomputable def candR (R : RN) : RN := { termR R (R.J.term + 1) R.id with role := 2,votes := (List.replicate R.n.toNat false).set R.id.toNat true }
noncomputable def campR (R : RN) : RN := if 1073741824 ≤ R.J.term then R else if R.n = 1 then leadR (candR R) else candR R
noncomputable def campM (R : RN) : List GMessage := if 1073741824 ≤ R.J.term then [] else (othL R.id R.n).map fun i => ⟨1,R.id,i,R.J.term + 1,R.J.log.length,lastT R.J.log,0,false,[]⟩
def beatM (R : RN) : List GMessage := if R.role = 3 then zcE R else []
def entsB : Int → Int → List GLogged → Bool
 | _,_,[] => true
 | last,T,e :: es => zbj e.Entry && (decide (last ≤ e.Term) && (decide (e.Term ≤ T) && entsB e.Term T es))
def goodM (R : RN) (m : GMessage) : Prop := m.To = R.id ∧ 0 ≤ m.From ∧ m.From < R.n ∧ m.From ≠ R.id ∧ 1 ≤ m.Kind ∧ m.Kind ≤ 4 ∧ 1 ≤ m.Term ∧ m.Term ≤ 1073741824 ∧ 0 ≤ m.Index ∧ m.Index ≤ 4096 ∧ 0 ≤ m.PrevTerm ∧ m.PrevTerm ≤ m.Term ∧ 0 ≤ m.Commit ∧ m.Commit ≤ 4096
instance (R : RN) (m : GMessage) : Decidable (goodM R m) := by unfold goodM; infer_instance
def za8 (R : RN) (m : GMessage) : Bool := decide (goodM R m) && (if m.Kind = 3 then ((decide (m.PrevTerm = 0) == decide (m.Index = 0)) && (decide ((m.Entries.length : Int) ≤ 4096 - m.Index) && entsB (max 1 m.PrevTerm) m.Term m.Entries)) else true)
def ansM (R : RN) (m : GMessage) (i : Int) (ok : Bool) : GMessage := ⟨4,R.id,m.From,R.J.term,i,0,0,ok,[]⟩
def zc7 (R : RN) (m : GMessage) : Bool := decide (m.Term = R.J.term ∧ (R.J.vote = -1 ∨ R.J.vote = m.From) ∧ (lastT R.J.log < m.PrevTerm ∨ m.PrevTerm = lastT R.J.log ∧ (R.J.log.length : Int) ≤ m.Index))
noncomputable def voteR (R : RN) (m : GMessage) : RN := if zc7 R m = true then termR R R.J.term m.From else R
noncomputable def voteM (R : RN) (m : GMessage) : List GMessage := [⟨2,R.id,m.From,(voteR R m).J.term,0,0,0,zc7 R m,[]⟩]
def zf7 (R : RN) (m : GMessage) : Bool := decide (R.role = 2 ∧ m.Term = R.J.term ∧ m.OK = true)
def zdb (R : RN) (m : GMessage) : RN := { R with votes := R.votes.set m.From.toNat true }
def zeB (R : RN) (m : GMessage) : RN := if zf7 R m = true then (if 2 * (cntT (zdb R m).votes : Int) ≤ R.n then zdb R m else leadR (zdb R m)) else R
def zgg (R : RN) (m : GMessage) : List GMessage := if zf7 R m = true then (if 2 * (cntT (zdb R m).votes : Int) ≤ R.n then [] else zcE (leadR (zdb R m))) else []
def fitGo (log : List GLogged) : Nat → List GLogged → Nat
 | _,[] => 0
 | i,e :: es => if i < log.length ∧ (logAt log i).Term = e.Term then fitGo log (i + 1) es + 1 else 0
noncomputable def appAll (J : JN) : List GLogged → JN
 | [] => J
 | e :: es => appAll (zaQ J e.Term e.Entry) es
noncomputable def fillJ (J : JN) (i : Int) (es : List GLogged) : JN := syncJ (appAll (if i < J.log.length then cutJ J i else J) es)
def holeB (R : RN) (m : GMessage) : Bool := decide ((R.J.log.length : Int) < m.Index ∨ 0 < m.Index ∧ (logAt R.J.log (m.Index - 1)).Term ≠ m.PrevTerm)
def fitN (R : RN) (m : GMessage) : Nat := fitGo R.J.log m.Index.toNat m.Entries
noncomputable def takeR (R : RN) (m : GMessage) : RN :=
 if m.Term < R.J.term then R else if R.role = 3 then R else if holeB R m = true then { R with role := 1 } else
 if fitN R m < m.Entries.length then (if m.Index + fitN R m < R.commit then { R with role := 1 } else
  { R with role := 1,J := fillJ R.J (m.Index + fitN R m) (m.Entries.drop (fitN R m)),commit := max R.commit (min m.Commit (m.Index + m.Entries.length)) })
 else { R with role := 1,commit := max R.commit (min m.Commit (m.Index + m.Entries.length)) }
noncomputable def takeM (R : RN) (m : GMessage) : List GMessage :=
 if m.Term < R.J.term then [ansM R m 0 false] else if R.role = 3 then [] else if holeB R m = true then [ansM R m (min (R.J.log.length : Int) (m.Index - 1)) false] else
 if fitN R m < m.Entries.length ∧ m.Index + fitN R m < R.commit then [] else [ansM R m (m.Index + m.Entries.length) true]
def backR (R : RN) (m : GMessage) : RN := { R with next := R.next.set m.From.toNat (max 0 (min (nxR R m.From - 1) m.Index)) }
def mtR (R : RN) (to : Int) : Int := R.mt.getD to.toNat 0
def zjf (R : RN) (m : GMessage) : RN := { R with mt := R.mt.set m.From.toNat (max (mtR R m.From) m.Index),next := R.next.set m.From.toNat (max (mtR R m.From) m.Index) }
def zcq (R : RN) (m : GMessage) : RN := if R.role ≠ 3 ∨ m.Term ≠ R.J.term then R else if m.OK = false then backR R m else if m.Index ≤ R.J.log.length then advR (zjf R m) else R
def zd5 (R : RN) (m : GMessage) : List GMessage := if R.role ≠ 3 ∨ m.Term ≠ R.J.term then [] else if m.OK = false then [appM (backR R m) m.From] else []
noncomputable def meetR (R : RN) (m : GMessage) : RN := if R.J.term < m.Term then { termR R m.Term (-1) with role := 1 } else R
noncomputable def handR (R : RN) (m : GMessage) : RN := if za8 R m = true then (if m.Kind = 1 then voteR (meetR R m) m else if m.Kind = 2 then zeB (meetR R m) m else if m.Kind = 3 then takeR (meetR R m) m else zcq (meetR R m) m) else R
noncomputable def handM (R : RN) (m : GMessage) : List GMessage := if za8 R m = true then (if m.Kind = 1 then voteM (meetR R m) m else if m.Kind = 2 then zgg (meetR R m) m else if m.Kind = 3 then takeM (meetR R m) m else zd5 (meetR R m) m) else []
noncomputable def newR (id n : Int) : RN := ⟨zeroJ,id,n,1,0,[],[],[]⟩
def rr (id n role commit : Int) (v x y : V) : AObj := ⟨74,8,[[.ptr 1 0 0,.int .i64 id,.int .i64 n,.int .i64 role,.int .i64 commit,v,x,y]],true,0,.rw⟩
@[simp] theorem rr_fold (id n role commit : Int) (v x y : V) : (⟨74,8,[[.ptr 1 0 0,.int .i64 id,.int .i64 n,.int .i64 role,.int .i64 commit,v,x,y]],true,0,.rw⟩ : AObj) = rr id n role commit v x y := rfl
@[simp] theorem rr_inj {a b c d a' b' c' d' : Int} {v x y v' x' y' : V} : rr a b c d v x y = rr a' b' c' d' v' x' y' ↔ a = a' ∧ b = b' ∧ c = c' ∧ d = d' ∧ v = v' ∧ x = x' ∧ y = y' := by simp only [rr,AObj.mk.injEq,List.cons.injEq,V.int.injEq,true_and,and_true]
@[simp] theorem rr_elems (a b c d : Int) (v x y : V) : (rr a b c d v x y).elems = [[.ptr 1 0 0,.int .i64 a,.int .i64 b,.int .i64 c,.int .i64 d,v,x,y]] := rfl
@[simp] theorem rr_et (a b c d : Int) (v x y : V) : (rr a b c d v x y).et = 74 := rfl
@[simp] theorem rr_es (a b c d : Int) (v x y : V) : (rr a b c d v x y).es = 8 := rfl
@[simp] theorem rr_tight (a b c d : Int) (v x y : V) : (rr a b c d v x y).tight = true := rfl
@[simp] theorem rr_md (a b c d : Int) (v x y : V) : (rr a b c d v x y).md = .rw := rfl
@[simp] theorem rr_fl (a b c d : Int) (v x y : V) : (rr a b c d v x y).fl = 0 := rfl
@[simp] theorem rr_linked (l : List Nat) (a b c d : Int) (v x y : V) : zbP l (rr a b c d v x y) = ((posOf 1 l).isSome && (zco l v && (zco l x && zco l y))) := by simp [zbP,zco,V.isTree,V.closed]
@[simp] theorem rj_linked (l : List Nat) (J : JN) : zbP l (rjO J) = true := by simp [zbP,zco,V.isTree,V.closed]
def boO (l : List Bool) : AObj := ⟨4,1,zaI l,false,2,.rw⟩
def inO (l : List Int) : AObj := ⟨3,1,zaL l,false,2,.rw⟩
@[simp] theorem boO_inj {l m : List Bool} : boO l = boO m ↔ l = m := by simp [boO]
@[simp] theorem bo_elems (l : List Bool) : (boO l).elems = zaI l := rfl
@[simp] theorem bo_et (l : List Bool) : (boO l).et = 4 := rfl
@[simp] theorem bo_es (l : List Bool) : (boO l).es = 1 := rfl
@[simp] theorem bo_tight (l : List Bool) : (boO l).tight = false := rfl
@[simp] theorem bo_md (l : List Bool) : (boO l).md = .rw := rfl
@[simp] theorem bo_fl (l : List Bool) : (boO l).fl = 2 := rfl
@[simp] theorem bo_fold (l : List Bool) : (⟨4,1,zaI l,false,2,.rw⟩ : AObj) = boO l := rfl
@[simp] theorem bo_linked (r : List Nat) (l : List Bool) : zbP r (boO l) = true := rfl
@[simp] theorem bo_names (l : List Bool) (f : Nat → Nat) : (boO l).ren f = boO l := AObj.ren_nl rfl
@[simp] theorem bo_within (l : List Bool) (D : Nat → Bool) : (boO l).within D = true := rfl
@[simp] theorem bo_scalar (l : List Bool) : zbA (boO l) = true := rfl
def boT (t : Bool) (l : List Bool) : AObj := ⟨4,1,zaI l,t,2,.rw⟩
@[simp] theorem boT_inj {t u : Bool} {l m : List Bool} : boT t l = boT u m ↔ l = m ∧ t = u := by simp [boT]
@[simp] theorem bt_elems (t : Bool) (l : List Bool) : (boT t l).elems = zaI l := rfl
@[simp] theorem bt_et (t : Bool) (l : List Bool) : (boT t l).et = 4 := rfl
@[simp] theorem bt_es (t : Bool) (l : List Bool) : (boT t l).es = 1 := rfl
@[simp] theorem bt_tight (t : Bool) (l : List Bool) : (boT t l).tight = t := rfl
@[simp] theorem bt_md (t : Bool) (l : List Bool) : (boT t l).md = .rw := rfl
@[simp] theorem bt_fl (t : Bool) (l : List Bool) : (boT t l).fl = 2 := rfl
@[simp] theorem bt_foldt (l : List Bool) : (⟨4,1,zaI l,true,2,.rw⟩ : AObj) = boT true l := rfl
@[simp] theorem bt_linked (r : List Nat) (t : Bool) (l : List Bool) : zbP r (boT t l) = true := rfl
@[simp] theorem bt_names (t : Bool) (l : List Bool) (f : Nat → Nat) : (boT t l).ren f = boT t l := AObj.ren_nl rfl
@[simp] theorem bt_within (t : Bool) (l : List Bool) (D : Nat → Bool) : (boT t l).within D = true := rfl
@[simp] theorem bt_scalar (t : Bool) (l : List Bool) : zbA (boT t l) = true := rfl
@[simp] theorem inO_inj {l m : List Int} : inO l = inO m ↔ l = m := by simp [inO]
@[simp] theorem in_elems (l : List Int) : (inO l).elems = zaL l := rfl
@[simp] theorem in_et (l : List Int) : (inO l).et = 3 := rfl
@[simp] theorem in_es (l : List Int) : (inO l).es = 1 := rfl
@[simp] theorem in_tight (l : List Int) : (inO l).tight = false := rfl
@[simp] theorem in_md (l : List Int) : (inO l).md = .rw := rfl
@[simp] theorem in_fl (l : List Int) : (inO l).fl = 2 := rfl
@[simp] theorem in_fold (l : List Int) : (⟨3,1,zaL l,false,2,.rw⟩ : AObj) = inO l := rfl
@[simp] theorem in_linked (r : List Nat) (l : List Int) : zbP r (inO l) = true := rfl
@[simp] theorem in_names (l : List Int) (f : Nat → Nat) : (inO l).ren f = inO l := AObj.ren_nl rfl
@[simp] theorem in_within (l : List Int) (D : Nat → Bool) : (inO l).within D = true := rfl
@[simp] theorem in_scalar (l : List Int) : zbA (inO l) = true := rfl
@[simp] theorem ntOk_iteP (p : Prop) [Decidable p] (rows : List (List V)) : ntOk (if p then 2 else 1) rows = true := by split <;> rfl
@[simp] theorem min_iteP (p : Prop) [Decidable p] : min 1 (if p then 2 else 1) = 1 := by split <;> rfl
@[simp] theorem all_lt5 {p : Nat → Prop} : (∀ n,n < 5 → p n) ↔ p 0 ∧ p 1 ∧ p 2 ∧ p 3 ∧ p 4 := by
 constructor
 ·intro h; exact ⟨h 0 (by omega),h 1 (by omega),h 2 (by omega),h 3 (by omega),h 4 (by omega)⟩
 ·rintro ⟨h0,h1,h2,h3,h4⟩ n hn
  have : n = 0 ∨ n = 1 ∨ n = 2 ∨ n = 3 ∨ n = 4 := by omega
  rcases this with rfl | rfl | rfl | rfl | rfl <;> assumption
end Go.Proofs.YtcpdgbncekdicaaGreat

namespace Go.Proofs.YtcpdgbncekdicaaGreat
open Go.Lift
set_option maxRecDepth 100000
def oeB (id : Int) (i : Nat) : Bool := decide ((i : Int) ≠ id)
theorem zuT (id n : Int) : othL id n = idxTo (oeB id) n.toNat := rfl
end Go.Proofs.YtcpdgbncekdicaaGreat

namespace Go.Proofs.YtcpdgbncekdicaaGreat
open Go.Lift
set_option maxRecDepth 100000
def NxOk (J : JN) (next : List Int) (n : Int) : Prop := next.length = n.toNat ∧ ∀ x ∈ next,0 ≤ x ∧ x ≤ J.log.length
theorem ze7 {id n x : Int} (h : x ∈ othL id n) : ∃ k : Nat,x = k ∧ (k : Int) < n ∧ x ≠ id := by
 obtain ⟨k,h1,h2,h3⟩ := zrV h
 exact ⟨k,h1,by omega,by rw [h1]; simpa using h3⟩
theorem zsB {id n : Int} (h : n ≤ 5) : (othL id n).length ≤ 5 := by
 have := zkc (fun i => decide ((i : Int) ≠ id)) n.toNat
 unfold othL; omega
def msO (l : List GMessage) : AObj := ⟨41,9,GMessage.row l,false,1,.rw⟩
end Go.Proofs.YtcpdgbncekdicaaGreat

namespace Go.Proofs.YtcpdgbncekdicaaGreat
open Go.Lift
set_option maxRecDepth 100000
end Go.Proofs.YtcpdgbncekdicaaGreat

namespace Go.Proofs.YtcpdgbncekdicaaGreat
open Go.Lift
set_option maxRecDepth 100000
end Go.Proofs.YtcpdgbncekdicaaGreat

namespace Go.Proofs.YtcpdgbncekdicaaGreat
open Go.Lift
set_option maxRecDepth 100000
theorem NxOk.lead (J : JN) (n : Int) : NxOk J (List.replicate n.toNat (J.log.length : Int)) n := by
 refine ⟨by simp,fun x hx => ?_⟩
 have := (List.mem_replicate.1 hx).2
 omega
end Go.Proofs.YtcpdgbncekdicaaGreat

namespace Go.Proofs.YtcpdgbncekdicaaGreat
open Go.Lift
set_option maxRecDepth 100000
def MtOk (J : JN) (mt : List Int) (n : Int) : Prop := mt.length = n.toNat ∧ ∀ x ∈ mt,0 ≤ x ∧ x ≤ J.log.length
@[simp] theorem ite_ne0 (p : Prop) [Decidable p] : (if p then 2 else 1) ≠ 0 := by split <;> decide
end Go.Proofs.YtcpdgbncekdicaaGreat

namespace Go.Lift
def cellP (st : St) (l : List (Nat ⊕ Nat)) (cs : List ((Nat ⊕ Nat) × Nat)) : List (Nat ⊕ Nat) := l ++ cs.map fun p => .inl (zqS st (pick st p.1) p.2)
theorem retM {T : TypeId → Option TI} {res : List ResultVar} {k : Nat} {e : Exit} {st : St} {v : V} {os : List AObj} (nl : List ((Nat ⊕ Nat) × Nat × TypeId × Nat)) (l : List (Nat ⊕ Nat)) (cs : List ((Nat ⊕ Nat) × Nat)) (he : isEnd e = true)
 (h : retV T (zcd nl [] st) res = some (v.ren (zaN (zcd nl [] st) (cellP (zcd nl [] st) l cs))) ∧ zgh (zaN (zcd nl [] st) (cellP (zcd nl [] st) l cs)) (zcd nl [] st) 0 os ∧ k ≤ os.length ∧ (∀ j,j < k → zaN (zcd nl [] st) (cellP (zcd nl [] st) l cs) j = j) ∧
  injL (zaN (zcd nl [] st) (cellP (zcd nl [] st) l cs)) 0 os ∧ v.within (fun j => decide (j < os.length)) = true ∧ ∀ o ∈ os,o.within (fun j => decide (j < os.length)) = true) : Ret T res ⟨v,os⟩ k e st := retC nl [] (cellP (zcd nl [] st) l cs) he h
attribute [simp] cellP
end Go.Lift
namespace Go.Proofs.YtcpdgbncekdicaaGreat
open Go.Lift
set_option maxRecDepth 100000
@[simp] theorem bo_foldn : (⟨4,1,[],false,2,.rw⟩ : AObj) = boO [] := rfl
@[simp] theorem in_foldn : (⟨3,1,[],false,2,.rw⟩ : AObj) = inO [] := rfl
theorem NxOk.more {J K : JN} {next : List Int} {n : Int} (h : NxOk J next n) (hl : J.log.length ≤ K.log.length) : NxOk K next n := ⟨h.1,fun x hx => by have := h.2 x hx; omega⟩
theorem MtOk.more {J K : JN} {mt : List Int} {n : Int} (h : MtOk J mt n) (hl : J.log.length ≤ K.log.length) : MtOk K mt n := ⟨h.1,fun x hx => by have := h.2 x hx; omega⟩
end Go.Proofs.YtcpdgbncekdicaaGreat

namespace Go.Proofs.YtcpdgbncekdicaaGreat
open Go.Lift
set_option maxRecDepth 100000
def mgO (m : GMessage) : AObj := ⟨41,9,[GMessage.cells m],true,1,.rw⟩
@[simp] theorem one_le_iteP (p : Prop) [Decidable p] : (1 ≤ if p then 2 else 1) = True := by split <;> simp
end Go.Proofs.YtcpdgbncekdicaaGreat

namespace Go.Proofs.YtcpdgbncekdicaaGreat
open Go.Lift
set_option maxRecDepth 100000
theorem minE (l i : Int) : (if i < l then i else l) = min l i := by omega
theorem zr6 (c l i : Int) : (if c < if i < l then i else l then if i < l then i else l else c) = max c (min l i) := by omega
theorem zsE (J : JN) (n : Int) : (cutJ J n).log.length ≤ J.log.length := by
 unfold cutJ
 split
 ·show (cuJ J n).log.length ≤ _
  unfold cuJ
  split
  ·simp only [List.length_take]; omega
  ·omega
 ·omega
theorem zhm (J : JN) (t : Int) (e : GEntry) : (zaQ J t e).log.length ≤ J.log.length + 1 := by
 rw [zbt]
 split
 ·simp
 ·omega
@[simp] theorem all_lt6 {p : Nat → Prop} : (∀ n,n < 6 → p n) ↔ p 0 ∧ p 1 ∧ p 2 ∧ p 3 ∧ p 4 ∧ p 5 := by
 constructor
 ·intro h; exact ⟨h 0 (by omega),h 1 (by omega),h 2 (by omega),h 3 (by omega),h 4 (by omega),h 5 (by omega)⟩
 ·rintro ⟨h0,h1,h2,h3,h4,h5⟩ n hn
  have : n = 0 ∨ n = 1 ∨ n = 2 ∨ n = 3 ∨ n = 4 ∨ n = 5 := by omega
  rcases this with rfl | rfl | rfl | rfl | rfl | rfl <;> assumption
theorem zeT : ∀ (l : List GLogged) (J : JN),(appAll J l).term = J.term
 | [],_ => rfl
 | e :: es,J => by rw [appAll,zeT es,zbo]
end Go.Proofs.YtcpdgbncekdicaaGreat

namespace Go.Proofs.YtcpdgbncekdicaaGreat
open Go.Lift
set_option maxRecDepth 100000
end Go.Proofs.YtcpdgbncekdicaaGreat

namespace Go.Proofs.YtcpdgbncekdicaaGreat
open Go.Lift
set_option maxRecDepth 100000
@[simp] theorem bo_len (l : List Bool) : (zaI l).take l.length = zaI l := List.take_of_length_le (by simp)
end Go.Proofs.YtcpdgbncekdicaaGreat

namespace Go.Proofs.YtcpdgbncekdicaaGreat
open Go.Lift
set_option maxRecDepth 100000
theorem zcz {R : RN} {m : GMessage} (h : za8 R m = true) : goodM R m := by
 unfold za8 at h
 simp only [Bool.and_eq_true,decide_eq_true_eq] at h
 exact h.1
theorem zia {R : RN} {m : GMessage} (h : za8 R m = true) (hk : m.Kind = 3) : m.Entries.length ≤ 4096 := by
 have hg := zcz h
 unfold za8 at h
 rw [if_pos hk] at h
 simp only [Bool.and_eq_true,decide_eq_true_eq] at h
 have := h.2.2.1
 have := hg.2.2.2.2.2.2.2.2.1
 omega
end Go.Proofs.YtcpdgbncekdicaaGreat

