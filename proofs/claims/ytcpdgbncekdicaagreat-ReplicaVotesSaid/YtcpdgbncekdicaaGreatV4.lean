/-
  Texts: PF1, PF2, E1, E2, E3, E5, E4, E6, E9, L28, L29, L30, Q0, QY, K1, K2, K5, K6, K7, K8, K9, KA, KB, KL.
-/
import Derived.Test.YtcpdgbncekdicaaGreatV3
set_option linter.unusedSimpArgs false
set_option linter.unusedVariables false
namespace Go.Proofs.YtcpdgbncekdicaaGreat
open Go.Lift
noncomputable def zhh:=fam (fun i : Nat × (List UInt8)=>[V.sl i.1 1 (zae i.2)]) (fun _=>[]) (fun i=>(NilOk i.1 i.2) ∧ (i.2.length ≤ 140737488355328)) (fun i=>⟨.own 0 0 i.2.length,[rowOf i.2]⟩)
@[simp] theorem cloneSp_eq {t : Nat} {l : List UInt8} (h1 : NilOk t l) (h2 : l.length ≤ 140737488355328) : zhh ([V.sl t 1 (zae l)]) ([]) = some (⟨.own 0 0 l.length,[rowOf l]⟩) :=
 zag (by rintro ⟨a0,a1⟩ ⟨b0,b1⟩ h h' <;> simp at h h' <;> simp_all) (t,l) ⟨h1,h2⟩
theorem zkV : Lift.Spec Tryz.prog 156 zhh:=by
 refine zaj (C:=C0) zac C0_ok follows Tryz.func156 (by kernel_rfl) rfl (by kernel_rfl) rfl ?_
 rintro ⟨t,l⟩ ⟨h0,hl⟩
 simp only at h0 hl
 refine ⟨by simp,?_⟩
 intro r hr
 have hl' : (l.length : Int) ≤ 140737488355328:=by omega
 by_cases ht : t = 0
 ·have:=h0 ht
  subst this; subst ht
  simp
  rw [hr]
  refine Ret.weak (zbN [.inr 2] rfl ?_ ?_ (by simp) ?_ ?_ ?_ ?_) (zcw (sz:=1) 2 77 (rowOf []) ?_ ?_ ?_) <;> simp [rowOf]
 ·by_cases hc : nnB t l.isEmpty = true
  ·simp [ht,hc,hl']
   rw [hr]; refine zka rfl rfl ?_ (by simp [rowOf])
   simp [rowOf]
  ·have : l = []:=by cases l with | nil=>rfl | cons a l=>exact absurd (by simp) hc
   subst this
   simp at hc
   simp [ht,hc]
   rw [hr]
   refine ⟨?_,?_⟩
   ·refine Ret.weak (zbN [.inr 2] rfl ?_ ?_ (by simp) ?_ ?_ ?_ ?_) (zcw (sz:=1) 2 77 (rowOf []) ?_ ?_ ?_) <;> simp [rowOf]
   ·refine zka rfl rfl ?_ (by simp [rowOf])
    simp [rowOf]
noncomputable def zqO:=fam (fun i : Nat=>[V.sl 0 1 [],.int .i64 i]) (fun _=>[]) (fun i=>(i ≤ 140737488355328)) (fun _=>⟨.own 0 0 0,[rowOf []]⟩)
@[simp] theorem growSp_eq {n : Nat} (h1 : n ≤ 140737488355328) : zqO ([V.sl 0 1 [],.int .i64 n]) ([]) = some (⟨.own 0 0 0,[rowOf []]⟩) :=
 zag (by intro a b h h' <;> simp at h h' <;> simp_all) n h1
theorem zut : Lift.Spec Tryz.prog 197 zqO:=by
 refine zaj (C:=C0) zac C0_ok follows Tryz.func197 (by kernel_rfl) rfl (by kernel_rfl) rfl ?_
 intro n hn
 refine ⟨by simp,?_⟩
 intro r hr
 have w1 : IntKind.i64.wrap (n : Int) = (n : Int):=w64
 have h1 : (n : Int) ≤ 140737488355328:=by omega
 have h0 : ¬ ((n : Int) < 0):=by omega
 by_cases hz : n = 0
 ·subst hz
  simp
  rw [hr]
  refine Ret.weak (zbN [.inr 4] rfl ?_ ?_ (by simp) ?_ ?_ ?_ ?_) (zcw (sz:=1) 4 77 (rowOf []) ?_ ?_ ?_) <;> simp [rowOf]
 ·have hp : (0 : Int) < (n : Int):=by omega
  have hp' : 0 < n:=by omega
  simp [h0,hp',w1,h1]
  rw [hr]
  refine Ret.weak (zbN [.inr 4] rfl ?_ ?_ (by simp) ?_ ?_ ?_ ?_) (zx3 0 144 ⟨5,1,List.replicate n [.int .u8 0],false,2,.rw⟩ ?_) <;> simp [rowOf,hp']
def zbY (ls : List (Nat × List UInt8)) : List (List V):=ls.map fun p=>[.sl p.1 1 (zae p.2)]
def za8 (ls : List (Nat × List UInt8)) : List UInt8:=(ls.map (·.2)).flatten
@[simp] theorem partRow_length (l : List (Nat × List UInt8)) : (zbY l).length = l.length:=by simp [zbY]
@[simp] theorem partRow_get (l : List (Nat × List UInt8)) (n : Nat) : (zbY l)[n]? = (l[n]?).map fun b=>[V.sl b.1 1 (zae b.2)]:=by simp [zbY]
@[simp] theorem partRow_getElem (l : List (Nat × List UInt8)) (n : Nat) (h : n < (zbY l).length) : (zbY l)[n] = [V.sl (l[n]'(by simpa using h)).1 1 (zae (l[n]'(by simpa using h)).2)]:=by simp [zbY]
theorem zpD {a b : List (Nat × List UInt8)} (h : zbY a = zbY b) : a = b:=by
 induction a generalizing b with
 | nil=>cases b with
  | nil=>rfl
  | cons=>cases h
 | cons x a ih=>cases b with
  | nil=>cases h
  | cons y b =>
   simp only [zbY,List.map_cons,List.cons.injEq] at h
   obtain ⟨h1,h2⟩:=h
   simp at h1
   rw [ih h2,Prod.ext h1.1 h1.2]
@[simp] theorem partRow_eq {a b : List (Nat × List UInt8)} : zbY a = zbY b ↔ a = b:=⟨zpD,fun h=>by rw [h]⟩
noncomputable def znJ:=fam (fun i : Nat × (List (Nat × List UInt8))=>[V.sl i.1 1 (zbY i.2)]) (fun _=>[]) (fun i=>((za8 i.2).length ≤ 140737488351232) ∧ (i.2.length ≤ 1000)) (fun i=>⟨.own 0 0 (za8 i.2).length,[rowOf (za8 i.2)]⟩)
theorem zuF {u : Nat} {ls : List (Nat × List UInt8)} (h1 : (za8 ls).length ≤ 140737488351232) (h2 : ls.length ≤ 1000) : znJ ([V.sl u 1 (zbY ls)]) ([]) = some (⟨.own 0 0 (za8 ls).length,[rowOf (za8 ls)]⟩) :=
 zag (by rintro ⟨a0,a1⟩ ⟨b0,b1⟩ h h' <;> simp at h h' <;> simp_all) (u,ls) ⟨h1,h2⟩
@[simp] theorem joinSp_three {u t1 t2 t3 : Nat} {a b c : List UInt8} (h : a.length + b.length + c.length ≤ 140737488351232) : znJ [V.sl u 1 [[V.sl t1 1 (zae a)],[V.sl t2 1 (zae b)],[V.sl t3 1 (zae c)]]] [] = some ⟨.own 0 0 (a.length + b.length + c.length),[rowOf (a ++ b ++ c)]⟩:=by
 have:=zuF (u:=u) (ls:=[(t1,a),(t2,b),(t3,c)]) (by simp [za8]; omega) (by simp)
 simp only [zbY,za8,List.map_cons,List.map_nil] at this
 rw [this]
 simp [Nat.add_assoc]
noncomputable def CF1:=mkC [(197,zqO)]
theorem zzR : zai Tryz.prog CF1:=zat (all_cons zut all_nil)
@[simp] theorem CF1_1 : CF1 197 = zqO:=rfl
theorem zkF (a b : List (Nat × List UInt8)) : za8 (a ++ b) = za8 a ++ za8 b:=by simp [za8]
theorem zhV {ls : List (Nat × List UInt8)} {i : Nat} {x : Nat × List UInt8} (hx : ls[i]? = some x) : za8 (ls.take (i + 1)) = za8 (ls.take i) ++ x.2:=by
 simp [za8,List.take_add_one,hx]
theorem zlb (ls : List (Nat × List UInt8)) (i : Nat) : (za8 (ls.take i)).length ≤ (za8 ls).length:=by
 have : za8 ls = za8 (ls.take i) ++ za8 (ls.drop i):=by
  rw [← zkF,List.take_append_drop]
 rw [this]; simp
def jnSt1 (u : Nat) (ls : List (Nat × List UInt8)) (i : Nat) : St :=
 mkSt [(0,.sl u 1 (zbY ls)),(3,.int .i64 (za8 (ls.take i)).length),(9,.sl u 1 (zbY ls)),(10,.int .i64 ls.length),(11,.int .i64 i)] [] 0
def jnSt2 (u : Nat) (ls : List (Nat × List UInt8)) (i : Nat) : St :=
 mkSt [(0,.sl u 1 (zbY ls)),(6,.own 0 0 (za8 (ls.take i)).length),(25,.sl u 1 (zbY ls)),(26,.int .i64 ls.length),(27,.int .i64 i)] [(0,rowOf (za8 (ls.take i)))] 1
theorem zuG : Lift.Spec Tryz.prog 178 znJ:=by
 refine zaj (C:=CF1) zac zzR follows Tryz.func178 (by kernel_rfl) rfl (by kernel_rfl) rfl ?_
 rintro ⟨u,ls⟩ ⟨h1,h2⟩
 simp only at h1 h2
 refine ⟨by simp,?_⟩
 intro r hr
 simp
 refine zal (jnSt1 u ls) (fun i=>i ≤ ls.length) (fun i=>ls.length - i) 0 ?_ (Nat.zero_le _) ?_
 ·refine zaW id ?_ ?_ ?_ ?_ <;> simp [za8]
 ·intro i hi
  by_cases hik : i < ls.length
  ·obtain ⟨x,hx,hx'⟩ : ∃ x,ls[i]? = some x ∧ ls[i] = x:=⟨_,List.getElem?_eq_getElem hik,rfl⟩
   have hj:=zhV hx
   have hle:=zlb ls (i + 1)
   have w4 : IntKind.i64.wrap ((i : Int) + 1) = (i : Int) + 1:=w64
   have w5 : IntKind.i64.wrap (((za8 (ls.take i)).length : Int) + (x.2.length : Int)) = ((za8 (ls.take (i + 1))).length : Int):=by
    rw [hj,List.length_append] at *
    rw [w64]; omega
   have w6 : ¬ (((za8 (ls.take (i + 1))).length : Int) < 0):=by omega
   simp [jnSt1,hik,hx',w4,w5,w6]
   refine Again.mk (i + 1) hik ?_ ?_
   ·omega
   ·refine zaW id ?_ ?_ ?_ ?_ <;> simp
  ·have e : i = ls.length:=by omega
   subst e
   have h3 : (za8 ls).length ≤ 140737488355328:=by omega
   simp [jnSt1,h3]
   refine zal (jnSt2 u ls) (fun i=>i ≤ ls.length) (fun i=>ls.length - i) 0 ?_ (Nat.zero_le _) ?_
   ·refine zak [.inr 6] ?_ ?_ ?_ ?_ <;> simp [za8,rowOf]
   ·intro i hi
    by_cases hik : i < ls.length
    ·obtain ⟨x,hx,hx'⟩ : ∃ x,ls[i]? = some x ∧ ls[i] = x:=⟨_,List.getElem?_eq_getElem hik,rfl⟩
     have hj:=zhV hx
     have hle:=zlb ls (i + 1)
     have w4 : IntKind.i64.wrap ((i : Int) + 1) = (i : Int) + 1:=w64
     have w5 : ((za8 (ls.take i)).length : Int) + (x.2.length : Int) ≤ 140737488355328:=by
      rw [hj,List.length_append] at hle
      omega
     simp [jnSt2,hik,hx',w4,w5,rowOf]
     refine Again.mk (i + 1) hik ?_ ?_
     ·omega
     ·refine zak [.inr 6] ?_ ?_ ?_ ?_ <;> simp [rowOf,hj]
    ·have e : i = ls.length:=by omega
     subst e
     simp [jnSt2,rowOf]
     rw [hr]
     refine zbN [.inr 2] rfl ?_ ?_ (by simp) ?_ ?_ ?_ ?_ <;> simp [rowOf]
theorem zun : Lift.Spec Tryz.prog 153 lenSp:=by
 refine zaj (C:=CW) zac CW_ok follows Tryz.func153 (by kernel_rfl) rfl (by kernel_rfl) rfl ?_
 rintro ⟨t,l⟩ _
 refine ⟨by simp,?_⟩
 intro r hr
 rcases hT : takeT l with ⟨a,b,c⟩
 by_cases hc : c = 0
 ·by_cases ha : a < 0
  ·have hL : lenT l = (0,0,18):=by rw [zcQ,lenT0,hT]; simp [hc,ha]
   simp [takeV,hT,hc,ha]
   rw [hr]; refine zaa rfl ?_ rfl
   simp [lenV,hL]
  ·by_cases hb : 65536 < a
   ·have hL : lenT l = (0,0,2):=by rw [zcQ,lenT0,hT]; simp [hc,ha,hb]
    simp [takeV,hT,hc,ha,hb]
    rw [hr]; refine zaa rfl ?_ rfl
    simp [lenV,hL]
   ·have hL : lenT l = (a,b,0):=by rw [zcQ,lenT0,hT]; simp [hc,ha,hb]
    simp [takeV,hT,hc,ha,hb]
    rw [hr]; refine zaa rfl ?_ rfl
    simp [lenV,hL]
 ·have hL : lenT l = (0,0,c):=by rw [zcQ,lenT0,hT]; simp [hc]
  simp [takeV,hT,hc]
  rw [hr]; refine zaa rfl ?_ rfl
  simp [lenV,hL]
def sumB (s : Int) (i : Nat) : UInt8:=UInt8.ofNat (s.toNat / 2 ^ (8 * i))
def sumBs (s : Int) : List UInt8:=(List.range 8).map (sumB s)
@[simp] theorem zok (s : Int) : (sumBs s).length = 8:=by simp [sumBs]
def sumTo (s : Int) (i : Nat) : List UInt8:=(List.range i).map (sumB s)
@[simp] theorem zol (s : Int) (i : Nat) : (sumTo s i).length = i:=by simp [sumTo]
theorem zhC (s : Int) (i : Nat) : sumTo s (i + 1) = sumTo s i ++ [sumB s i]:=by simp [sumTo,List.range_succ]
theorem zsY (s : Int) : sumTo s 0 = []:=rfl
theorem zgk (s : Int) : sumTo s 8 = sumBs s:=rfl
theorem zqa {s : Int} (h : InU64 s) (i : Nat) : IntKind.u8.wrap (s.fdiv (2 ^ (8 * i))) = ((sumB s i).toNat : Int):=by
 unfold InU64 at h
 obtain ⟨n,rfl⟩ : ∃ n : Nat,s = n:=⟨s.toNat,by omega⟩
 have e : ((n : Int).fdiv (2 ^ (8 * i))) = ((n / 2 ^ (8 * i) : Nat) : Int):=by
  rw [Int.fdiv_eq_ediv_of_nonneg _ (Int.pow_nonneg (by omega))]
  simp
 rw [e,zkt]
 simp [sumB]
noncomputable def zi4:=fam (fun i : List UInt8 × Int=>[V.own 0 0 i.1.length,.int .u64 i.2]) (fun i=>[rowOf i.1]) (fun i=>InU64 i.2 ∧ (i.1.length : Int) ≤ 140737488355318) (fun i=>⟨.own 1 0 (i.1.length + 8),[kill (rowOf i.1),rowOf (i.1 ++ sumBs i.2)]⟩)
@[simp] theorem apSumSp_eq {l : List UInt8} {n : Int} {k : Nat} (hk : k = l.length) (h : InU64 n) (h0 : (l.length : Int) ≤ 140737488355318) : zi4 [V.own 0 0 k,.int .u64 n] [⟨5,1,zae l,false,2,.rw⟩] = some ⟨.own 1 0 (l.length + 8),[kill (rowOf l),rowOf (l ++ sumBs n)]⟩:=by
 subst hk
 exact zag (A:=fun i : List UInt8 × Int=>[V.own 0 0 i.1.length,.int .u64 i.2]) (O:=fun i=>[rowOf i.1]) (fun i j h h'=>by simp at h h'; rw [h',h.2]) (l,n) ⟨h,h0⟩
@[simp] theorem apSumSp_sl {a b : Nat} {c : List (List V)} {v : V} {os : List AObj} : zi4 [V.sl a b c,v] os = none:=zgH (fun i h _=>by simp at h)
def apSt (l : List UInt8) (s : Int) (i : Nat) : St :=
 mkSt [(0,.own (if i = 0 then 0 else 1) 0 (l.length + i)),(1,.int .u64 s),(6,.int .i64 i)] (if i = 0 then [(0,rowOf l)] else [(0,kill (rowOf l)),(1,rowOf (l ++ sumTo s i))]) 2
theorem zrw : Lift.Spec Tryz.prog 176 zi4:=by
 refine zaj (C:=C0) zac C0_ok follows Tryz.func176 (by kernel_rfl) rfl (by kernel_rfl) rfl ?_
 rintro ⟨l,s⟩ ⟨hs,hlen⟩
 simp only at hs hlen
 refine ⟨by simp,?_⟩
 intro r hr
 simp
 refine zal (apSt l s) (fun i=>i ≤ 8) (fun i=>8 - i) 0 ?_ (Nat.zero_le _) ?_
 ·refine zaW id ?_ ?_ ?_ ?_ <;> simp [rowOf]
 ·intro i hi
  by_cases hik : i < 8
  ·have w1 : IntKind.i64.wrap (8 * (i : Int)) = 8 * (i : Int):=w64
   have w2 : (min (8 * (i : Int)).toNat 64) = 8 * i:=by omega
   have w0 : ¬ (8 * (i : Int) < 0):=by omega
   have w4 : IntKind.i64.wrap ((i : Int) + 1) = (i : Int) + 1:=w64
   have w5 : (l.length : Int) + (i : Int) + 1 ≤ 140737488355328:=by omega
   have hik' : (i : Int) < 8:=by omega
   by_cases h0 : i = 0
   ·subst h0
    have hb:=zqa hs 0
    simp at hb
    have w6 : (l.length : Int) + 1 ≤ 140737488355328:=by omega
    have hsum : sumTo s 1 = [sumB s 0]:=rfl
    simp [apSt,rowOf,hb,w6,zdv]
    refine Again.mk 1 ?_ ?_ ?_
    ·omega
    ·omega
    ·refine zak [.inl 0,.inr 0] ?_ ?_ ?_ ?_ <;> simp [rowOf,hsum]
   ·simp [apSt,rowOf,h0,hik',w0,w1,w2,w5,zqa hs,zdv]
    refine Again.mk (i + 1) ?_ ?_ ?_
    ·omega
    ·omega
    ·refine zak [.inl 0,.inr 0] ?_ ?_ ?_ ?_ <;> simp [rowOf,zhC,w4,Nat.add_assoc]
  ·have e : i = 8:=by omega
   subst e
   simp [apSt,rowOf]
   rw [hr,← zgk]
   refine zbN [.inl 0,.inr 4] rfl ?_ ?_ (by simp) ?_ ?_ ?_ ?_ <;> simp [rowOf]
def backN : List UInt8 → Nat
 | []=>0
 | x :: l=>x.toNat + 256 * backN l
theorem zeK : ∀ (a b : List UInt8),backN (a ++ b) = backN a + 2 ^ (8 * a.length) * backN b
 | [],b=>by simp [backN]
 | x :: a,b=>by
  have : 2 ^ (8 * (a.length + 1)) = 256 * 2 ^ (8 * a.length):=by rw [show 8 * (a.length + 1) = 8 * a.length + 8 by omega,Nat.pow_add]; omega
  simp only [List.cons_append,backN,zeK a b,List.length_cons,this]
  rw [Nat.mul_add,Nat.mul_assoc]; omega
theorem zlQ : ∀ l : List UInt8,backN l < 2 ^ (8 * l.length)
 | []=>by simp [backN]
 | x :: l=>by
  have:=zlQ l
  have h2 : 2 ^ (8 * (l.length + 1)) = 256 * 2 ^ (8 * l.length):=by rw [show 8 * (l.length + 1) = 8 * l.length + 8 by omega,Nat.pow_add]; omega
  have:=x.toNat_lt
  simp only [backN,List.length_cons,h2]
  omega
theorem zjb {s : Int} (h : InU64 s) : ∀ i,backN (sumTo s i) = s.toNat % 2 ^ (8 * i)
 | 0=>by simp [sumTo,backN,Nat.mod_one]
 | i + 1=>by
  rw [zhC,zeK,zjb h i,zol]
  have e : 2 ^ (8 * (i + 1)) = 2 ^ (8 * i) * 256:=by rw [show 8 * (i + 1) = 8 * i + 8 by omega,Nat.pow_add]
  rw [e,Nat.mod_mul]
  simp [backN,sumB]
theorem zoH {s : Int} (h : InU64 s) : (backN (sumBs s) : Int) = s:=by
 rw [← zgk,zjb h]
 unfold InU64 at h
 rw [Nat.mod_eq_of_lt (by omega)]
 omega
theorem zxh {c y k : Nat} (hc : c < 2 ^ k) (hy : c + y * 2 ^ k < 18446744073709551616) : iOr .u64 (c : Int) (IntKind.u64.wrap ((y : Int) * 2 ^ k)) = ((c + y * 2 ^ k : Nat) : Int):=by
 have e1 : (y : Int) * 2 ^ k = ((y * 2 ^ k : Nat) : Int):=by simp
 have e2 : y * 2 ^ k < 18446744073709551616:=by omega
 rw [e1,zaS (x:=((y * 2 ^ k : Nat) : Int)) (by omega) (by omega)]
 have : (BitVec.ofInt 64 (c : Int) ||| BitVec.ofInt 64 ((y * 2 ^ k : Nat) : Int)).toNat = c + y * 2 ^ k:=by
  rw [BitVec.toNat_or,BitVec.ofInt_natCast,BitVec.ofInt_natCast,BitVec.toNat_ofNat,BitVec.toNat_ofNat,Nat.mod_eq_of_lt (by omega),Nat.mod_eq_of_lt (by omega),Nat.or_comm,Nat.mul_comm y,← Nat.two_pow_add_eq_or_of_lt hc]
  omega
 show IntKind.u64.wrap ((BitVec.ofInt 64 (c : Int) ||| BitVec.ofInt 64 ((y * 2 ^ k : Nat) : Int)).toNat : Int) = _
 rw [this]
 exact zaS (by omega) (by omega)
theorem zkU {l : List UInt8} {i : Nat} {x : UInt8} (hx : l[i]? = some x) (hi : i < 8) : iOr .u64 (backN (l.take i) : Int) (IntKind.u64.wrap ((x.toNat : Int) * 2 ^ (8 * i))) = (backN (l.take (i + 1)) : Int):=by
 have hl : i < l.length:=(List.getElem?_eq_some_iff.1 hx).1
 have h1 : (l.take i).length = i:=by rw [List.length_take]; omega
 have h2:=zlQ (l.take i)
 rw [h1] at h2
 have h3 : backN (l.take (i + 1)) = backN (l.take i) + x.toNat * 2 ^ (8 * i):=by
  rw [List.take_add_one,hx,zeK,h1]
  simp [backN,Nat.mul_comm]
 have h4:=zlQ (l.take (i + 1))
 have h5 : (l.take (i + 1)).length = i + 1:=by rw [List.length_take]; omega
 rw [h5] at h4
 have h6 : 2 ^ (8 * (i + 1)) ≤ 2 ^ 64:=Nat.pow_le_pow_right (by decide) (by omega)
 have h7 : (2 : Nat) ^ 64 = 18446744073709551616:=by decide
 rw [zxh h2 (by omega),h3]
noncomputable def zjc:=fam (fun i : Nat × (List UInt8)=>[V.sl i.1 1 (zae i.2)]) (fun _=>[]) (fun i=>(i.2.length ≤ 8)) (fun i=>⟨.int .u64 (backN i.2),[]⟩)
@[simp] theorem backSp_eq {t : Nat} {l : List UInt8} (h1 : l.length ≤ 8) : zjc ([V.sl t 1 (zae l)]) ([]) = some (⟨.int .u64 (backN l),[]⟩) :=
 zag (by rintro ⟨a0,a1⟩ ⟨b0,b1⟩ h h' <;> simp at h h' <;> simp_all) (t,l) h1
def bkSt (t : Nat) (l : List UInt8) (i : Nat) : St :=
 mkSt [(0,.sl t 1 (zae l)),(3,.int .u64 (backN (l.take i))),(6,.sl t 1 (zae l)),(7,.int .i64 l.length),(8,.int .i64 i)] [] 0
theorem ztU : Lift.Spec Tryz.prog 154 zjc:=by
 refine zaj (C:=C0) zac C0_ok follows Tryz.func154 (by kernel_rfl) rfl (by kernel_rfl) rfl ?_
 rintro ⟨t,l⟩ hl
 simp only at hl
 refine ⟨by simp,?_⟩
 intro r hr
 simp
 refine zal (bkSt t l) (fun i=>i ≤ l.length) (fun i=>l.length - i) 0 ?_ (Nat.zero_le _) ?_
 ·refine zaW id ?_ ?_ ?_ ?_ <;> simp [backN]
 ·intro i hi
  by_cases hik : i < l.length
  ·obtain ⟨x,hx,hx'⟩ : ∃ x,l[i]? = some x ∧ l[i] = x:=⟨_,List.getElem?_eq_getElem hik,rfl⟩
   have w1 : IntKind.i64.wrap (8 * (i : Int)) = 8 * (i : Int):=w64
   have w2 : (min (8 * (i : Int)).toNat 64) = 8 * i:=by omega
   have w0 : ¬ (8 * (i : Int) < 0):=by omega
   have w4 : IntKind.i64.wrap ((i : Int) + 1) = (i : Int) + 1:=w64
   have w6 : IntKind.u64.wrap (x.toNat : Int) = (x.toNat : Int):=zaS (by omega) (by have:=x.toNat_lt; omega)
   simp [bkSt,hik,hx',w0,w1,w2,w4,w6,zkU hx (by omega)]
   refine Again.mk (i + 1) ?_ ?_ ?_
   ·omega
   ·omega
   ·refine zaW id ?_ ?_ ?_ ?_ <;> simp
  ·have e : i = l.length:=by omega
   subst e
   simp [bkSt]
   rw [hr]; refine zaa rfl ?_ rfl
   simp
def rbSt (t : Nat) (l : List UInt8) (i : Nat) : St :=
 mkSt [(0,.sl t 1 (zae l)),(3,.int .u64 (backN (l.take i))),(4,.int .i64 i)] [] 0
theorem zn8 : Lift.Spec Tryz.prog 158 zjc:=by
 refine zaj (C:=C0) zac C0_ok follows Tryz.func158 (by kernel_rfl) rfl (by kernel_rfl) rfl ?_
 rintro ⟨t,l⟩ hl
 simp only at hl
 refine ⟨by simp,?_⟩
 intro r hr
 simp
 refine zal (rbSt t l) (fun i=>i ≤ l.length) (fun i=>l.length - i) 0 ?_ (Nat.zero_le _) ?_
 ·refine zaW id ?_ ?_ ?_ ?_ <;> simp [backN]
 ·intro i hi
  by_cases hik : i < l.length
  ·obtain ⟨x,hx,hx'⟩ : ∃ x,l[i]? = some x ∧ l[i] = x:=⟨_,List.getElem?_eq_getElem hik,rfl⟩
   have w1 : IntKind.i64.wrap (8 * (i : Int)) = 8 * (i : Int):=w64
   have w5 : IntKind.u64.wrap (8 * (i : Int)) = 8 * (i : Int):=zaS (by omega) (by omega)
   have w2 : (min (8 * (i : Int)).toNat 64) = 8 * i:=by omega
   have w0 : ¬ (8 * (i : Int) < 0):=by omega
   have w4 : IntKind.i64.wrap ((i : Int) + 1) = (i : Int) + 1:=w64
   have w6 : IntKind.u64.wrap (x.toNat : Int) = (x.toNat : Int):=zaS (by omega) (by have:=x.toNat_lt; omega)
   have h8 : (i : Int) < 8:=by omega
   simp [rbSt,hik,h8,hx',w0,w1,w2,w4,w5,w6,zkU hx (by omega)]
   refine Again.mk (i + 1) ?_ ?_ ?_
   ·omega
   ·omega
   ·refine zaW id ?_ ?_ ?_ ?_ <;> simp
  ·have e : i = l.length:=by omega
   subst e
   by_cases h8 : (l.length : Int) < 8
   ·simp [rbSt,h8]
    rw [hr]; refine zaa rfl ?_ rfl
    simp
   ·simp [rbSt,h8]
    rw [hr]; refine zaa rfl ?_ rfl
    simp
noncomputable def zl2:=fam (fun i : Nat × (List UInt8) × Int=>[V.sl i.1 1 (zae i.2.1),.int .u64 i.2.2]) (fun _=>[]) (fun i=>(InU64 i.2.2) ∧ ((i.2.1.length : Int) ≤ 140737488355318)) (fun i=>⟨.own 0 0 (i.2.1.length + 8),[rowOf (i.2.1 ++ sumBs i.2.2)]⟩)
@[simp] theorem eightSp_eq {t : Nat} {l : List UInt8} {s : Int} (h1 : InU64 s) (h2 : (l.length : Int) ≤ 140737488355318) : zl2 ([V.sl t 1 (zae l),.int .u64 s]) ([]) = some (⟨.own 0 0 (l.length + 8),[rowOf (l ++ sumBs s)]⟩) :=
 zag (by rintro ⟨a0,a1,a2⟩ ⟨b0,b1,b2⟩ h h' <;> simp at h h' <;> simp_all) (t,l,s) ⟨h1,h2⟩
def egSt (l : List UInt8) (s : Int) (i : Nat) : St :=
 mkSt [(1,.int .u64 s),(5,.own 0 0 (l.length + i)),(6,.int .i64 i)] [(0,rowOf (l ++ sumTo s i))] 1
theorem zrT : Lift.Spec Tryz.prog 139 zl2:=by
 refine zaj (C:=C0) zac C0_ok follows Tryz.func139 (by kernel_rfl) rfl (by kernel_rfl) rfl ?_
 rintro ⟨t,l,s⟩ ⟨hs,hlen⟩
 simp only at hs hlen
 refine ⟨by simp,?_⟩
 intro r hr
 have hl' : (l.length : Int) ≤ 140737488355328:=by omega
 simp [hl']
 refine zal (egSt l s) (fun i=>i ≤ 8) (fun i=>8 - i) 0 ?_ (Nat.zero_le _) ?_
 ·refine zak [.inr 5] ?_ ?_ ?_ ?_ <;> simp [rowOf,zsY]
 ·intro i hi
  by_cases hik : i < 8
  ·have w1 : IntKind.i64.wrap (8 * (i : Int)) = 8 * (i : Int):=w64
   have w2 : (min (8 * (i : Int)).toNat 64) = 8 * i:=by omega
   have w0 : ¬ (8 * (i : Int) < 0):=by omega
   have w4 : IntKind.i64.wrap ((i : Int) + 1) = (i : Int) + 1:=w64
   have w6 : IntKind.u64.wrap (8 * (i : Int)) = 8 * (i : Int):=zaS (by omega) (by omega)
   have w5 : (l.length : Int) + (i : Int) + 1 ≤ 140737488355328:=by omega
   have hik' : (i : Int) < 8:=by omega
   simp [egSt,rowOf,hik',w0,w1,w2,w5,w6,zqa hs,zdv]
   refine Again.mk (i + 1) ?_ ?_ ?_
   ·omega
   ·omega
   ·refine zak [.inr 5] ?_ ?_ ?_ ?_ <;> simp [rowOf,zhC,w4,Nat.add_assoc]
  ·have e : i = 8:=by omega
   subst e
   simp [egSt,rowOf]
   rw [hr,← zgk]
   refine zbN [.inr 4] rfl ?_ ?_ (by simp) ?_ ?_ ?_ ?_ <;> simp [rowOf]
theorem zy5 (h : Int) (l : List UInt8) : InU64 (allI h l):=zem _ _
theorem zvx (key : Int) (l : List UInt8) : InU64 (sumI key l):=by rw [zkm]; exact zy5 _ _
attribute [simp] zvx
noncomputable def frB : Int → List UInt8 → List UInt8:=hush fun key p=>enc (code p.length) ++ sumBs (sumI key p) ++ p
theorem zjF (key : Int) (p : List UInt8) : frB key p = enc (code p.length) ++ sumBs (sumI key p) ++ p:=by unfold frB; rw [zdT]
noncomputable def putB (key : Int) (b p : List UInt8) : List UInt8:=if 65536 < p.length then b else b ++ frB key p
noncomputable def CF3:=mkC [(156,zhh),(178,znJ),(176,zi4),(177,intSp),(155,sumSp),(109,intSp),(140,sumSp),(139,zl2)]
theorem zyc : zai Tryz.prog CF3:=zat (all_cons zkV (all_cons zuG (all_cons zrw (all_cons ziu (all_cons zrf (all_cons zes (all_cons zj7 (all_cons zrT all_nil))))))))
@[simp] theorem CF3_1 : CF3 156 = zhh:=rfl
@[simp] theorem CF3_2 : CF3 178 = znJ:=rfl
@[simp] theorem CF3_3 : CF3 176 = zi4:=rfl
@[simp] theorem CF3_4 : CF3 177 = intSp:=rfl
@[simp] theorem CF3_5 : CF3 155 = sumSp:=rfl
@[simp] theorem CF3_6 : CF3 109 = intSp:=rfl
@[simp] theorem CF3_7 : CF3 140 = sumSp:=rfl
@[simp] theorem CF3_8 : CF3 139 = zl2:=rfl
noncomputable def putSp:=fam (fun i : Nat × (List UInt8) × Int × Nat × (List UInt8)=>[V.sl i.1 1 (zae i.2.1),.int .i64 i.2.2.1,.sl i.2.2.2.1 1 (zae i.2.2.2.2)]) (fun _=>[]) (fun i=>(NilOk i.1 i.2.1) ∧ (In64 i.2.2.1) ∧ (i.2.1.length ≤ 140737488200000) ∧ (i.2.2.2.2.length ≤ 9223372036854775807)) (fun i=>⟨.own 0 0 (putB i.2.2.1 i.2.1 i.2.2.2.2).length,[rowOf (putB i.2.2.1 i.2.1 i.2.2.2.2)]⟩)
@[simp] theorem zmy {t : Nat} {b : List UInt8} {key : Int} {u : Nat} {p : List UInt8} (h1 : NilOk t b) (h2 : In64 key) (h3 : b.length ≤ 140737488200000) (h4 : p.length ≤ 9223372036854775807) : putSp ([V.sl t 1 (zae b),.int .i64 key,.sl u 1 (zae p)]) ([]) = some (⟨.own 0 0 (putB key b p).length,[rowOf (putB key b p)]⟩) :=
 zag (by rintro ⟨a0,a1,a2,a3,a4⟩ ⟨b0,b1,b2,b3,b4⟩ h h' <;> simp at h h' <;> simp_all) (t,b,key,u,p) ⟨h1,h2,h3,h4⟩
theorem zxp : Lift.Spec Tryz.prog 148 putSp:=by
 refine zaj (C:=CF3) zac zyc follows Tryz.func148 (by kernel_rfl) rfl (by kernel_rfl) rfl ?_
 rintro ⟨t,b,key,u,p⟩ ⟨h0,hk,hb,hp⟩
 simp only at h0 hk hb hp
 refine ⟨by simp,?_⟩
 intro r hr
 have hp' : (p.length : Int) ≤ 9223372036854775807:=by omega
 by_cases hbig : 65536 < p.length
 ·have h1 : putB key b p = b:=by simp [putB,hbig]
  have h2 : b.length ≤ 140737488355328:=by omega
  have h3 : (65536 : Int) < (p.length : Int):=by omega
  simp [h3,h0,h2]
  simp only [h1] at hr
  rw [hr]
  refine zbN [.inr 6] rfl ?_ ?_ (by simp) ?_ ?_ ?_ ?_ <;> simp [rowOf]
 ·have h1 : putB key b p = b ++ frB key p:=by simp [putB,hbig]
  have h3 : ¬ (65536 : Int) < (p.length : Int):=by omega
  have hn : In64 (p.length : Int):=by unfold In64; omega
  have he:=zeP _ (zdd hn)
  have h4 : ((enc (code (p.length : Int))).length : Int) ≤ 140737488355318:=by omega
  have h5 : b.length + ((enc (code (p.length : Int))).length + 8) + p.length ≤ 140737488351232:=by omega
  simp [h3,zeU hn,hk,hp',h4,h5,rowOf]
  have h6 : (b ++ (enc (code (p.length : Int)) ++ (sumBs (sumI key p) ++ p))) = putB key b p:=by rw [h1,zjF]; simp
  have h7 : b.length + ((enc (code (p.length : Int))).length + 8) + p.length = (putB key b p).length:=by rw [← h6]; simp; omega
  rw [hr]
  have h8 : ((enc (code (p.length : Int))) ++ sumBs (sumI key p)).take ((enc (code (p.length : Int))).length + 8) = enc (code (p.length : Int)) ++ sumBs (sumI key p):=List.take_of_length_le (by simp)
  refine zbN [.inr 6] rfl ?_ ?_ (by simp) ?_ ?_ ?_ ?_ <;> simp [rowOf,h6,h7,h8]
theorem zj6 : Lift.Spec Tryz.prog 118 putSp:=by
 refine zaj (C:=CF3) zac zyc follows Tryz.func118 (by kernel_rfl) rfl (by kernel_rfl) rfl ?_
 rintro ⟨t,b,key,u,p⟩ ⟨h0,hk,hb,hp⟩
 simp only at h0 hk hb hp
 refine ⟨by simp,?_⟩
 intro r hr
 have hp' : (p.length : Int) ≤ 9223372036854775807:=by omega
 by_cases hbig : 65536 < p.length
 ·have h1 : putB key b p = b:=by simp [putB,hbig]
  have h2 : (b.length : Int) ≤ 140737488355328:=by omega
  have h3 : (65536 : Int) < (p.length : Int):=by omega
  simp [h3,h2]
  simp only [h1] at hr
  rw [hr]
  refine zbN [.inr 6] rfl ?_ ?_ (by simp) ?_ ?_ ?_ ?_ <;> simp [rowOf]
 ·have h1 : putB key b p = b ++ frB key p:=by simp [putB,hbig]
  have h3 : ¬ (65536 : Int) < (p.length : Int):=by omega
  have hn : In64 (p.length : Int):=by unfold In64; omega
  have he:=zeP _ (zdd hn)
  have h2 : (b.length : Int) ≤ 140737488351222:=by omega
  have h4 : (b.length : Int) + ((enc (code (p.length : Int))).length : Int) ≤ 140737488355318:=by omega
  have h5 : (b.length : Int) + ((enc (code (p.length : Int))).length : Int) + 8 + (p.length : Int) ≤ 140737488355328:=by omega
  simp [h2,h3,hn,hk,hp',h4,h5,rowOf]
  have h6 : (b ++ (enc (code (p.length : Int)) ++ (sumBs (sumI key p) ++ p))) = putB key b p:=by rw [h1,zjF]; simp
  have h7 : b.length + (enc (code (p.length : Int))).length + 8 + p.length = (putB key b p).length:=by rw [← h6]; simp; omega
  rw [hr]
  have h8 : (b ++ enc (code (p.length : Int))).take (b.length + (enc (code (p.length : Int))).length) = b ++ enc (code (p.length : Int)):=List.take_of_length_le (by simp)
  have h9 : b ++ enc (code (p.length : Int)) ++ (sumBs (sumI key p) ++ p) = putB key b p:=by rw [← h6]; simp
  refine zbN [.inr 6] rfl ?_ ?_ (by simp) ?_ ?_ ?_ ?_ <;> simp [rowOf,h6,h7,h8]
noncomputable def frT0 (key : Int) (b : List UInt8) : List UInt8 × Int × Int :=
 if (lenT b).2.2 = 0 then
  (if b.length < (lenT b).2.1.toNat + 8 + (lenT b).1.toNat then ([],0,17)
  else if (backN ((b.drop (lenT b).2.1.toNat).take 8) : Int) = sumI key ((b.drop ((lenT b).2.1.toNat + 8)).take (lenT b).1.toNat) then ((b.drop ((lenT b).2.1.toNat + 8)).take (lenT b).1.toNat,(lenT b).2.1 + 8 + (lenT b).1,0) else ([],0,18))
 else ([],0,(lenT b).2.2)
noncomputable def frT : Int → List UInt8 → List UInt8 × Int × Int:=hush frT0
theorem zhS (key : Int) (b : List UInt8) : frT key b = frT0 key b:=by unfold frT; rw [zdT]
def frRes (x : List UInt8 × Int × Int) : CRes:=if x.2.2 = 0 then ⟨.tup [.own 0 0 x.1.length,.int .i64 x.2.1,.int .i64 0],[rowOf x.1]⟩ else ⟨.tup [.sl 0 1 [],.int .i64 0,.int .i64 x.2.2],[]⟩
theorem zit (p : List UInt8) (n : Int) : frRes (p,n,0) = ⟨.tup [.own 0 0 p.length,.int .i64 n,.int .i64 0],[rowOf p]⟩:=by simp [frRes]
theorem zc9 (p : List UInt8) (n e : Int) (h : ¬ e = 0) : frRes (p,n,e) = ⟨.tup [.sl 0 1 [],.int .i64 0,.int .i64 e],[]⟩:=by simp [frRes,h]
theorem zgJ (key : Int) (b : List UInt8) : (∃ e,¬ e = 0 ∧ frT key b = ([],0,e) ∧ lenT b = (0,0,e)) ∨ ∃ n k : Nat,lenT b = ((n : Int),(k : Int),0) ∧ n ≤ 65536 ∧ 1 ≤ k ∧ k ≤ 10 ∧ k ≤ b.length ∧ (∃ rest,b = enc (code (n : Int)) ++ rest ∧ k = (enc (code (n : Int))).length) ∧
 ((b.length < k + 8 + n ∧ frT key b = ([],0,17)) ∨ (k + 8 + n ≤ b.length ∧ ¬ (backN ((b.drop k).take 8) : Int) = sumI key ((b.drop (k + 8)).take n) ∧ frT key b = ([],0,18)) ∨
   (k + 8 + n ≤ b.length ∧ (backN ((b.drop k).take 8) : Int) = sumI key ((b.drop (k + 8)).take n) ∧ frT key b = ((b.drop (k + 8)).take n,(k : Int) + 8 + n,0))):=by
 rcases zsm b with ⟨e,he,hL⟩ | ⟨n,k,hL,hn,hk,hk1,hk2,hr⟩
 ·exact .inl ⟨e,he,by rw [zhS,frT0,hL]; simp [he],hL⟩
 ·refine .inr ⟨n,k,hL,hn,hk1,hk2,hk,hr,?_⟩
  by_cases hs : b.length < k + 8 + n
  ·exact .inl ⟨hs,by rw [zhS,frT0,hL]; simp [hs]⟩
  ·by_cases hq : (backN ((b.drop k).take 8) : Int) = sumI key ((b.drop (k + 8)).take n)
   ·exact .inr (.inr ⟨by omega,hq,by rw [zhS,frT0,hL]; simp [hs,hq]⟩)
   ·exact .inr (.inl ⟨by omega,hq,by rw [zhS,frT0,hL]; simp [hs,hq]⟩)
noncomputable def zdi:=fam (fun i : Nat × (List UInt8) × Int=>[V.sl i.1 1 (zae i.2.1),.int .i64 i.2.2]) (fun _=>[]) (fun i=>(NilOk i.1 i.2.1) ∧ (In64 i.2.2) ∧ (i.2.1.length ≤ 140737488355328)) (fun i=>frRes (frT i.2.2 i.2.1))
@[simp] theorem zph {t : Nat} {b : List UInt8} {key : Int} (h1 : NilOk t b) (h2 : In64 key) (h3 : b.length ≤ 140737488355328) : zdi ([V.sl t 1 (zae b),.int .i64 key]) ([]) = some (frRes (frT key b)) :=
 zag (by rintro ⟨a0,a1,a2⟩ ⟨b0,b1,b2⟩ h h' <;> simp at h h' <;> simp_all) (t,b,key) ⟨h1,h2,h3⟩
noncomputable def CF4:=mkC [(156,zhh),(153,lenSp),(154,zjc),(155,sumSp),(136,zdc),(140,sumSp),(158,zjc)]
theorem zyd : zai Tryz.prog CF4:=zat (all_cons zkV (all_cons zun (all_cons ztU (all_cons zrf (all_cons zdK (all_cons zj7 (all_cons zn8 all_nil)))))))
@[simp] theorem CF4_1 : CF4 156 = zhh:=rfl
@[simp] theorem CF4_2 : CF4 153 = lenSp:=rfl
@[simp] theorem CF4_3 : CF4 154 = zjc:=rfl
@[simp] theorem CF4_4 : CF4 155 = sumSp:=rfl
@[simp] theorem CF4_5 : CF4 136 = zdc:=rfl
@[simp] theorem CF4_6 : CF4 140 = sumSp:=rfl
@[simp] theorem CF4_7 : CF4 158 = zjc:=rfl
theorem zjH : Lift.Spec Tryz.prog 132 zdi:=by
 refine zaj (C:=CF4) zac zyd follows Tryz.func132 (by kernel_rfl) rfl (by kernel_rfl) rfl ?_
 rintro ⟨t,b,key⟩ ⟨h0,hkey,hb⟩
 simp only at h0 hkey hb
 refine ⟨by simp,?_⟩
 intro r hr
 rcases zgJ key b with ⟨e,he,hT,hL⟩ | ⟨n,k,hL,hn,hk1,hk2,hk,_,hc⟩
 ·simp [lenV,hL,he]
  rw [hr]
  simp only [hT,zc9 _ _ _ he]
  refine zaa rfl ?_ rfl
  simp
 ·have w1 : IntKind.i64.wrap ((k : Int) + 8) = (k : Int) + 8:=w64
  have w2 : IntKind.i64.wrap ((k : Int) + 8 + (n : Int)) = (k : Int) + 8 + (n : Int):=w64
  have ht0 : t ≠ 0:=fun h=>by rw [h0 h] at hk; simp at hk; omega
  rcases hc with ⟨hs,hT⟩ | hc
  ·have hs' : (b.length : Int) < (k : Int) + 8 + (n : Int):=by omega
   simp [lenV,hL,w1,w2,hs']
   rw [hr]
   simp only [hT]
   rw [zc9 _ _ _ (by decide)]
   refine zaa rfl ?_ rfl
   simp
  ·have hs : k + 8 + n ≤ b.length:=by rcases hc with hc | hc <;> exact hc.1
   have hs' : ¬ (b.length : Int) < (k : Int) + 8 + (n : Int):=by omega
   have q1 : (k : Int) + 8 + (n : Int) ≤ (b.length : Int):=by omega
   have q2 : (k : Int) + 8 ≤ (k : Int) + 8 + (n : Int):=by omega
   have q3 : (k : Int) ≤ (k : Int) + 8:=by omega
   have q4 : (k : Int) + 8 ≤ (b.length : Int):=by omega
   have e1 : ((k : Int) + 8).toNat = k + 8:=by omega
   have e2 : ((k : Int) + 8 + (n : Int)).toNat - (k + 8) = n:=by omega
   have q0 : (0 : Int) ≤ (k : Int) + 8:=by omega
   have q5 : ((b.drop k).take 8).length ≤ 8:=by rw [List.length_take]; omega
   have q6 : (((b.drop (k + 8)).take n).length : Int) ≤ 9223372036854775807:=by rw [List.length_take]; omega
   have q7 : ((b.drop (k + 8)).take n).length ≤ 140737488355328:=by rw [List.length_take]; omega
   have e3 : k + 8 - k = 8:=by omega
   have q8 : ((b.drop (k + 8)).take n).length = n:=by rw [List.length_take,List.length_drop]; omega
   have hnil : ∀ c,NilOk (zdx t c) ((b.drop (k + 8)).take n):=fun c=>zuV ht0
   simp only [List.length_take,List.length_drop] at q5 q6 q7 q8
   simp [lenV,hL,w1,w2,hs',q0,q1,q2,q3,q4,q5,q6,e1,e2,e3,hkey]
   rcases hc with ⟨_,hq,hT⟩ | ⟨_,hq,hT⟩
   ·simp [hq]
    rw [hr]
    simp only [hT]
    rw [zc9 _ _ _ (by decide)]
    refine zaa rfl ?_ rfl
    simp
   ·simp [hq,hnil,q7]
    rw [hr]
    simp only [hT]
    rw [zit]
    refine zbN [.inr 4] rfl ?_ ?_ (by simp) ?_ ?_ ?_ ?_ <;> simp [rowOf,q8]
theorem zkK : Lift.Spec Tryz.prog 135 zdi:=by
 refine zaj (C:=CF4) zac zyd follows Tryz.func135 (by kernel_rfl) rfl (by kernel_rfl) rfl ?_
 rintro ⟨t,b,key⟩ ⟨h0,hkey,hb⟩
 simp only at h0 hkey hb
 refine ⟨by simp,?_⟩
 intro r hr
 rcases zgJ key b with ⟨e,he,hT,hL⟩ | ⟨n,k,hL,hn,hk1,hk2,hk,_,hc⟩
 ·rcases hTk : takeT b with ⟨a,c,d⟩
  rw [zcQ,lenT0,hTk] at hL
  simp only at hL
  have hr2 : r = ⟨.tup [.sl 0 1 [],.int .i64 0,.int .i64 e],[]⟩:=by rw [hr]; simp only [hT,zc9 _ _ _ he]
  by_cases hd : d = 0
  ·subst hd
   by_cases ha : a < 0
   ·simp [ha] at hL
    simp [takeV,hTk,ha]
    rw [hr2,← hL]; refine zaa rfl ?_ rfl
    simp
   ·by_cases hb : 65536 < a
    ·simp [ha,hb] at hL
     simp [takeV,hTk,ha,hb]
     rw [hr2,← hL]; refine zaa rfl ?_ rfl
     simp
    ·simp [ha,hb] at hL
     exact absurd hL.2.2.symm he
  ·simp [hd] at hL
   simp [takeV,hTk,hd]
   rw [hr2,← hL]; refine zaa rfl ?_ rfl
   simp
 ·have hTk : takeT b = ((n : Int),(k : Int),0):=by
   rcases hTk : takeT b with ⟨a,c,d⟩
   rw [zcQ,lenT0,hTk] at hL
   simp only at hL
   by_cases hd : d = 0
   ·rw [if_pos hd] at hL
    by_cases ha : a < 0
    ·rw [if_pos ha] at hL; simp at hL
    ·rw [if_neg ha] at hL
     by_cases hb : 65536 < a
     ·rw [if_pos hb] at hL; simp at hL
     ·rw [if_neg hb] at hL; rw [hd]; exact hL
   ·rw [if_neg hd] at hL; simp at hL; exact absurd hL.2.2 hd
  have w0 : IntKind.i64.wrap ((b.length : Int) - (k : Int)) = (b.length : Int) - (k : Int):=w64
  have w1 : IntKind.i64.wrap ((k : Int) + 8) = (k : Int) + 8:=w64
  have w2 : IntKind.i64.wrap ((k : Int) + 8 + (n : Int)) = (k : Int) + 8 + (n : Int):=w64
  have w3 : IntKind.i64.wrap ((n : Int) + 8) = (n : Int) + 8:=w64
  have hn2 : ¬ (65536 : Int) < (n : Int):=by omega
  have hn3 : ¬ (n : Int) < 0:=by omega
  rcases hc with ⟨hs,hT⟩ | hc
  ·have hs' : (b.length : Int) - (k : Int) < (n : Int) + 8:=by omega
   simp [takeV,hTk,hn2,hn3,w0,w3,hs']
   rw [hr]
   simp only [hT]
   rw [zc9 _ _ _ (by decide)]
   refine zaa rfl ?_ rfl
   simp
  ·have hs : k + 8 + n ≤ b.length:=by rcases hc with hc | hc <;> exact hc.1
   have hs' : ¬ (b.length : Int) - (k : Int) < (n : Int) + 8:=by omega
   have q1 : (k : Int) + 8 + (n : Int) ≤ (b.length : Int):=by omega
   have q2 : (k : Int) + 8 ≤ (k : Int) + 8 + (n : Int):=by omega
   have q3 : (k : Int) ≤ (k : Int) + 8:=by omega
   have q4 : (k : Int) + 8 ≤ (b.length : Int):=by omega
   have e1 : ((k : Int) + 8).toNat = k + 8:=by omega
   have e2 : ((k : Int) + 8 + (n : Int)).toNat - (k + 8) = n:=by omega
   have q0 : (0 : Int) ≤ (k : Int) + 8:=by omega
   have q5 : ((b.drop k).take 8).length ≤ 8:=by rw [List.length_take]; omega
   have q8 : ((b.drop (k + 8)).take n).length = n:=by rw [List.length_take,List.length_drop]; omega
   have q6 : ((((b.drop (k + 8)).take n).length : Nat) : Int) ≤ 9223372036854775807:=by omega
   have q7 : ((((b.drop (k + 8)).take n).length : Nat) : Int) ≤ 140737488355328:=by omega
   have e3 : k + 8 - k = 8:=by omega
   have e4 : min n (b.length - (k + 8)) = n:=by omega
   have q9 : (n : Int) ≤ 140737488355328:=by omega
   have q10 : (n : Int) ≤ 9223372036854775807:=by omega
   simp only [List.length_take,List.length_drop] at q5 q6 q7 q8
   have e5 : ((b.drop (k + 8)).take n).take n = (b.drop (k + 8)).take n:=by rw [List.take_take,Nat.min_self]
   simp [takeV,hTk,hn2,hn3,w0,w1,w2,w3,hs',q0,q1,q2,q3,q4,q5,q9,q10,e1,e2,e3,e4,hkey]
   refine ⟨⟨by kernel_rfl,by kernel_rfl⟩,?_⟩
   rw [e5]
   rcases hc with ⟨_,hq,hT⟩ | ⟨_,hq,hT⟩
   ·have hq' : ¬ sumI key ((b.drop (k + 8)).take n) = (backN ((b.drop k).take 8) : Int):=fun h=>hq h.symm
    simp [hq']
    rw [hr]
    simp only [hT]
    rw [zc9 _ _ _ (by decide)]
    refine zaa rfl ?_ rfl
    simp
   ·simp [hq,w1,w2]
    rw [hr]
    simp only [hT]
    rw [zit]
    refine zbN [.inr 4] rfl ?_ ?_ (by simp) ?_ ?_ ?_ ?_ <;> simp [rowOf,e4]
theorem zl9 (key : Int) (b : List UInt8) : (∃ e,¬ e = 0 ∧ frT key b = ([],0,e)) ∨ ∃ (p : List UInt8) (n : Nat),frT key b = (p,(n : Int),0) ∧ 9 ≤ n ∧ n ≤ b.length ∧ p.length ≤ 65536:=by
 rcases zgJ key b with ⟨e,he,hT,hL⟩ | ⟨n,k,hL,hn,hk1,hk2,hk,_,hc⟩
 ·exact .inl ⟨e,he,hT⟩
 ·rcases hc with ⟨_,hT⟩ | ⟨_,_,hT⟩ | ⟨hs,_,hT⟩
  ·exact .inl ⟨17,by decide,hT⟩
  ·exact .inl ⟨18,by decide,hT⟩
  ·exact .inr ⟨(b.drop (k + 8)).take n,k + 8 + n,by rw [hT]; simp,by omega,hs,by rw [List.length_take]; omega⟩
theorem zpg (key : Int) : frT key [] = ([],0,17):=by
 rw [zhS,frT0,zcQ,lenT0,zbk]
 simp [zbq]
noncomputable def allGo (key : Int) : Nat → List UInt8 → Nat → List (List UInt8) → List (List UInt8) × Nat
 | 0,_,at_,acc=>(acc,at_)
 | f + 1,b,at_,acc=>if (frT key (b.drop at_)).2.2 = 0 then allGo key f b (at_ + (frT key (b.drop at_)).2.1.toNat) (acc ++ [(frT key (b.drop at_)).1]) else (acc,at_)
theorem zkQ (key : Int) (b : List UInt8) : ∀ (f at_ : Nat) (acc : List (List UInt8)),b.length + 1 ≤ f + at_ → at_ ≤ b.length → allGo key (f + 1) b at_ acc = allGo key f b at_ acc
 | 0,at_,acc,h,h2=>by omega
 | f + 1,at_,acc,h,h2=>by
  rw [allGo]
  conv=>rhs; rw [allGo]
  rcases zl9 key (b.drop at_) with ⟨e,he,hT⟩ | ⟨p,n,hT,h9,hle,_⟩
  ·rw [hT,if_neg he,if_neg he]
  ·rw [hT,if_pos rfl,if_pos rfl]
   simp only [Int.toNat_natCast]
   rw [List.length_drop] at hle
   exact zkQ key b f _ _ (by omega) (by omega)
theorem zm7 (key : Int) (b : List UInt8) (at_ : Nat) (acc : List (List UInt8)) (h2 : at_ ≤ b.length) : ∀ d,allGo key (b.length + 1 - at_ + d) b at_ acc = allGo key (b.length + 1 - at_) b at_ acc
 | 0=>rfl
 | d + 1=>by rw [← Nat.add_assoc,zkQ key b _ _ _ (by omega) h2,zm7 key b at_ acc h2 d]
noncomputable def allAt (key : Int) (b : List UInt8) (at_ : Nat) (acc : List (List UInt8)) : List (List UInt8) × Nat:=allGo key (b.length + 1 - at_) b at_ acc
theorem zdW {key : Int} {b : List UInt8} {at_ : Nat} {acc : List (List UInt8)} (h : at_ ≤ b.length) {e : Int} (he : ¬ e = 0) (hT : frT key (b.drop at_) = ([],0,e)) : allAt key b at_ acc = (acc,at_):=by
 unfold allAt
 rw [show b.length + 1 - at_ = (b.length - at_) + 1 by omega,allGo,hT,if_neg he]
theorem zig {key : Int} {b : List UInt8} {at_ : Nat} {acc : List (List UInt8)} (h : at_ ≤ b.length) {p : List UInt8} {n : Nat} (hn : 1 ≤ n) (hle : at_ + n ≤ b.length) (hT : frT key (b.drop at_) = (p,(n : Int),0)) : allAt key b at_ acc = allAt key b (at_ + n) (acc ++ [p]):=by
 unfold allAt
 rw [show b.length + 1 - at_ = (b.length - at_) + 1 by omega,allGo,hT,if_pos rfl]
 simp only [Int.toNat_natCast]
 have:=zm7 key b (at_ + n) (acc ++ [p]) hle (n - 1)
 rw [← this]
 congr 1
 omega
noncomputable def allT : Int → List UInt8 → List (List UInt8) × Nat:=hush fun key b=>allAt key b 0 []
theorem zlJ (key : Int) (b : List UInt8) : allT key b = allAt key b 0 []:=by unfold allT; rw [zdT]
def recOf (ls : List (List UInt8)) : AObj:=⟨113,1,zaX ls,false,1,.rw⟩
def zeE (x : List (List UInt8) × Nat) : CRes:=⟨.tup [.own 0 0 x.1.length,.int .i64 x.2],[recOf x.1]⟩
noncomputable def allSp:=fam (fun i : Nat × (List UInt8) × Int=>[V.sl i.1 1 (zae i.2.1),.int .i64 i.2.2]) (fun _=>[]) (fun i=>(NilOk i.1 i.2.1) ∧ (In64 i.2.2) ∧ (i.2.1.length ≤ 40000000000000)) (fun i=>zeE (allT i.2.2 i.2.1))
@[simp] theorem zwt {t : Nat} {b : List UInt8} {key : Int} (h1 : NilOk t b) (h2 : In64 key) (h3 : b.length ≤ 40000000000000) : allSp ([V.sl t 1 (zae b),.int .i64 key]) ([]) = some (zeE (allT key b)) :=
 zag (by rintro ⟨a0,a1,a2⟩ ⟨b0,b1,b2⟩ h h' <;> simp at h h' <;> simp_all) (t,b,key) ⟨h1,h2,h3⟩
noncomputable def CF5:=mkC [(132,zdi),(135,zdi)]
theorem zzS : zai Tryz.prog CF5:=zat (all_cons zjH (all_cons zkK all_nil))
@[simp] theorem CF5_1 : CF5 132 = zdi:=rfl
@[simp] theorem CF5_2 : CF5 135 = zdi:=rfl
def alSt (t : Nat) (b : List UInt8) (key : Int) (i : Nat × List (List UInt8)) : St :=
 mkSt [(0,.sl t 1 (zae b)),(1,.int .i64 key),(6,.own 0 0 i.2.length),(7,.int .i64 i.1)] [(0,recOf i.2)] 1
theorem zn7 : Lift.Spec Tryz.prog 116 allSp:=by
 refine zaj (C:=CF5) zac zzS follows Tryz.func116 (by kernel_rfl) rfl (by kernel_rfl) rfl ?_
 rintro ⟨t,b,key⟩ ⟨h0,hkey,hb⟩
 simp only at h0 hkey hb
 refine ⟨by simp,?_⟩
 intro r hr
 simp
 refine zal (alSt t b key) (fun i=>i.1 ≤ b.length ∧ 9 * i.2.length ≤ i.1 ∧ allAt key b i.1 i.2 = allT key b) (fun i=>b.length - i.1) (0,[]) ?_ ⟨Nat.zero_le _,Nat.le_refl _,(zlJ key b).symm⟩ ?_
 ·refine zks 6 77 (sz:=1) (recOf []) (fun _=>77) ?_ ?_ ?_ ?_ ?_ ?_ <;> simp [recOf]
 ·rintro ⟨a,acc⟩ ⟨ha,hacc,hall⟩
  simp only at ha hacc hall
  have hd : (b.drop a).take (b.length - a) = b.drop a:=List.take_of_length_le (by simp)
  have hnil : ∀ c,NilOk (zdx t c) (b.drop a):=fun c h=>by rw [h0 (zjj.1 h)]; simp
  have ha' : (a : Int) ≤ (b.length : Int):=by omega
  have hl : b.length - a ≤ 140737488355328:=by omega
  by_cases hal : a < b.length
  ·rcases zl9 key (b.drop a) with ⟨e,he,hT⟩ | ⟨p,n,hT,h9,hle,hp⟩
   ·simp [alSt,recOf,ha',hal,hd,hnil,hkey,hl,hT,zc9 _ _ _ he,he]
    rw [hr]
    simp only [← hall,zdW ha he hT,zeE]
    refine zbN [.inr 4] rfl ?_ ?_ (by simp) ?_ ?_ ?_ ?_ <;> simp [recOf]
   ·rw [List.length_drop] at hle
    have q1 : ((acc.length : Int) + 1) * 24 ≤ 140737488355328:=by omega
    have q2 : (acc.length : Int) + 1 ≤ 140737488355328:=by omega
    have w1 : IntKind.i64.wrap ((a : Int) + (n : Int)) = ((a + n : Nat) : Int):=by rw [w64]; omega
    simp [alSt,recOf,ha',hal,hd,hnil,hkey,hl,hT,zit,q1,q2]
    refine Again.mk (a + n,acc ++ [p]) ⟨?_,?_,?_⟩ ?_ ?_
    ·show a + n ≤ b.length; omega
    ·show 9 * (acc ++ [p]).length ≤ a + n; simp; omega
    ·rw [← hall]; exact (zig ha (by omega) (by omega) hT).symm
    ·show b.length - (a + n) < b.length - a; omega
    ·refine (zx5 [8] ?_).trans (zak [.inr 6] ?_ ?_ ?_ ?_) <;> simp [recOf,rowOf,w1,zpx]
  ·have e : a = b.length:=by omega
   subst e
   have hT : frT key (b.drop b.length) = ([],0,17):=by rw [List.drop_length]; exact zpg key
   simp [alSt,recOf]
   rw [hr]
   simp only [← hall,zdW ha (by decide) hT,zeE]
   refine zbN [.inr 4] rfl ?_ ?_ (by simp) ?_ ?_ ?_ ?_ <;> simp [recOf]
end Go.Proofs.YtcpdgbncekdicaaGreat

namespace Go.Proofs.YtcpdgbncekdicaaGreat
open Go.Lift
theorem zqS {p : List UInt8} (h : p.length ≤ 65536) : In64 (p.length : Int):=by unfold In64; omega
theorem zjG {key : Int} {p : List UInt8} : (frB key p).length = (enc (code (p.length : Int))).length + 8 + p.length:=by
 rw [zjF]; simp [Nat.add_assoc]
theorem zze {key : Int} {p q s more : List UInt8} (h : p.length ≤ 65536) (hs : s.length = 8) (hq : q.length = p.length) :
 frT key (enc (code (p.length : Int)) ++ s ++ q ++ more) = if (backN s : Int) = sumI key q then (q,((enc (code (p.length : Int))).length : Int) + 8 + p.length,0) else ([],0,18):=by
 have hL : lenT (enc (code (p.length : Int)) ++ s ++ q ++ more) = ((p.length : Int),((enc (code (p.length : Int))).length : Int),0):=by
  have hT : takeT (enc (code (p.length : Int)) ++ s ++ q ++ more) = ((p.length : Int),((enc (code (p.length : Int))).length : Int),0):=by
   rw [List.append_assoc,List.append_assoc]
   exact zcu (zqS h) _
  rw [zcQ,lenT0,hT]
  simp [show ¬ (p.length : Int) < 0 by omega,show ¬ (65536 : Int) < (p.length : Int) by omega]
 rw [zhS,frT0,hL]
 generalize hE : enc (code (p.length : Int)) = E
 have e1 : ((E ++ s ++ q ++ more).drop E.length).take 8 = s:=by
  rw [List.append_assoc,List.append_assoc,List.drop_left,← hs,List.take_left]
 have e2 : ((E ++ s ++ q ++ more).drop (E.length + 8)).take p.length = q:=by
  have : E.length + 8 = (E ++ s).length:=by simp [hs]
  rw [this,List.append_assoc (E ++ s),List.drop_left,← hq,List.take_left]
 have e3 : ¬ (E ++ s ++ q ++ more).length < E.length + 8 + p.length:=by simp [hs,hq]; omega
 simp only [Int.toNat_natCast,if_true,e1,e2,if_neg e3]
theorem zAu {key key' : Int} {p more : List UInt8} (h : p.length ≤ 65536) (hk : In64 key) (hk' : In64 key') :
 frT key' (frB key p ++ more) = if key = key' then (p,((frB key p).length : Int),0) else ([],0,18):=by
 have:=zze (key:=key') (p:=p) (q:=p) (s:=sumBs (sumI key p)) (more:=more) h (by simp) rfl
 rw [zjG]
 rw [zjF,this,zoH (zvx _ _)]
 by_cases e : key = key'
 ·subst e; simp
 ·rw [if_neg (fun h=>e ((zxF hk hk' p).1 h)),if_neg e]
theorem zsZ : ∀ (u i c k : Nat),i ≤ 9 → u < 2 ^ (64 - 7 * i) → (0 < i → 0 < u) → k < (enc u).length → zbq ((enc u).take k) i c = (0,0,17):=by
 intro u
 induction u using Nat.strongRecOn with
 | _ u ih =>
  intro i c k hi hu hp hk
  cases k with
  | zero=>rw [List.take_zero,zbq,if_pos (by omega)]
  | succ k =>
   by_cases h : u < 128
   ·rw [zcN h] at hk; simp at hk
   ·rw [zcM h] at hk ⊢
    rw [List.take_succ_cons,zbq,if_neg (by omega),zpk,if_pos (by omega)]
    have hi8 : i ≤ 8:=by
     apply Classical.byContradiction
     intro hn
     have e : 64 - 7 * i = 1:=by omega
     rw [e] at hu; omega
    have e1 : 2 ^ (64 - 7 * i) = 2 ^ (64 - 7 * (i + 1)) * 128:=by
     rw [show 64 - 7 * i = (64 - 7 * (i + 1)) + 7 by omega,Nat.pow_add]
    have hq : u / 128 < 2 ^ (64 - 7 * (i + 1)):=by
     rw [Nat.div_lt_iff_lt_mul (by omega)]; omega
    exact ih (u / 128) (by omega) (i + 1) _ k (by omega) hq (fun _=>by omega) (by simpa using hk)
theorem zzf {key : Int} {p : List UInt8} {k : Nat} (h : p.length ≤ 65536) (hk : k < (frB key p).length) : frT key ((frB key p).take k) = ([],0,17):=by
 have hn:=zqS h
 by_cases hlt : k < (enc (code (p.length : Int))).length
 ·have e : (frB key p).take k = (enc (code (p.length : Int))).take k:=by
   rw [zjF,List.append_assoc,List.take_append_of_le_length (by omega)]
  rw [zhS,frT0,zcQ,lenT0,zbk,e,zsZ _ 0 0 k (by omega) (by have:=zdd hn; simpa using this) (by omega) hlt]
  simp
 ·rw [zjG] at hk
  have e : (frB key p).take k = enc (code (p.length : Int)) ++ (sumBs (sumI key p) ++ p).take (k - (enc (code (p.length : Int))).length):=by
   rw [zjF,List.append_assoc,List.take_append,List.take_of_length_le (by omega)]
  have hL : lenT ((frB key p).take k) = ((p.length : Int),((enc (code (p.length : Int))).length : Int),0):=by
   rw [zcQ,lenT0,e,zcu hn]
   simp [show ¬ (p.length : Int) < 0 by omega,show ¬ (65536 : Int) < (p.length : Int) by omega]
  have hlen : ((frB key p).take k).length = k:=by rw [List.length_take,zjG]; omega
  rw [zhS,frT0,hL]
  simp only [Int.toNat_natCast,if_true,hlen]
  rw [if_pos (by omega)]
noncomputable def zaG (key : Int) (l : List (List UInt8)) : List UInt8:=(l.map (frB key)).flatten
theorem zfP (key : Int) (a b : List (List UInt8)) : zaG key (a ++ b) = zaG key a ++ zaG key b:=by simp [zaG]
theorem zhI {key : Int} (hk : In64 key) : ∀ (l : List (List UInt8)) (pre rest : List UInt8) (acc : List (List UInt8)),(∀ x ∈ l,x.length ≤ 65536) →
 allAt key (pre ++ zaG key l ++ rest) pre.length acc = allAt key (pre ++ zaG key l ++ rest) (pre ++ zaG key l).length (acc ++ l)
 | [],pre,rest,acc,_=>by simp [zaG]
 | x :: l,pre,rest,acc,h=>by
  have e : pre ++ zaG key (x :: l) ++ rest = (pre ++ frB key x) ++ zaG key l ++ rest:=by simp [zaG]
  have e2 : pre ++ zaG key (x :: l) = (pre ++ frB key x) ++ zaG key l:=by simp [zaG]
  have hx:=h x (List.mem_cons_self ..)
  have h9 : 9 ≤ (frB key x).length:=by rw [zjG]; have:=zhm (code (x.length : Int)); omega
  have hT : frT key ((pre ++ zaG key (x :: l) ++ rest).drop pre.length) = (x,((frB key x).length : Int),0):=by
   rw [List.append_assoc,List.drop_left]
   have : zaG key (x :: l) ++ rest = frB key x ++ (zaG key l ++ rest):=by simp [zaG]
   rw [this,zAu hx hk hk,if_pos rfl]
  rw [zig (by simp) (by omega) (by rw [e]; simp) hT]
  have:=zhI hk l (pre ++ frB key x) rest (acc ++ [x]) (fun y hy=>h y (List.mem_cons_of_mem _ hy))
  rw [e2]
  rw [List.length_append] at this
  rw [this]
  simp
theorem zoB {key : Int} (hk : In64 key) {l : List (List UInt8)} {rest : List UInt8} (h : ∀ x ∈ l,x.length ≤ 65536) {e : Int} (he : ¬ e = 0) (hr : frT key rest = ([],0,e)) : allT key (zaG key l ++ rest) = (l,(zaG key l).length):=by
 rw [zlJ]
 have:=zhI hk l [] rest [] h
 simp only [List.nil_append,List.length_nil] at this
 rw [this,zdW (by simp) he (by rw [List.drop_left]; exact hr)]
end Go.Proofs.YtcpdgbncekdicaaGreat

namespace Go.Proofs.YtcpdgbncekdicaaGreat
open Go.Lift
attribute [simp] zaE
attribute [simp high] zon
structure GR where
 a0 : Int
 a1 : Int
 b0 : Int
 b1 : Int
 c0 : Int
 c1 : Int
 d0 : Int
 d1 : Int
 e0 : Int
 e1 : Int
 f0 : Int
 f1 : Int
 g0 : Int
 g1 : Int
def GR.cells (r : GR) : List V:=[.int .i64 r.a0,.int .i64 r.a1,.int .i64 r.b0,.int .i64 r.b1,.int .i64 r.c0,.int .i64 r.c1,.int .i64 r.d0,.int .i64 r.d1,.int .i64 r.e0,.int .i64 r.e1,.int .i64 r.f0,.int .i64 r.f1,.int .i64 r.g0,.int .i64 r.g1]
theorem GR.cells_inj {r s : GR} (h : r.cells = s.cells) : r = s:=by
 cases r; cases s; simp [GR.cells] at h; simp [h]
def rngK (k t c r v : Int) : GR :=
 if k = 1 then ⟨0,t - 1,0,c - 1,-1,c - 1,0,0,0,0,0,0,0,0⟩
 else if k = 2 then ⟨0,t - 1,0,c - 1,-1,-1,1,1048576,0,1073741824,0,1073741824,0,v - 1⟩
 else if k = 3 then ⟨0,t - 1,-1,-1,-1,-1,1,1048576,0,0,0,0,0,0⟩
 else if k = 4 then ⟨0,t - 1,-1,c - 1,-1,-1,0,0,0,0,0,0,0,0⟩
 else if k = 5 then ⟨0,t - 1,0,c - 1,-1,-1,0,0,0,0,0,0,0,0⟩
 else if k = 6 then ⟨0,t - 1,0,c - 1,-1,-1,0,0,0,0,0,0,0,0⟩
 else if k = 7 then ⟨0,t - 1,-1,-1,-1,-1,0,0,0,0,0,0,0,0⟩
 else if k = 8 then ⟨0,t - 1,-1,-1,-1,-1,0,0,0,0,0,0,0,1⟩
 else if k = 9 then ⟨-1,-1,0,c - 1,-1,-1,0,0,0,0,0,0,1,3⟩
 else if k = 10 then ⟨-1,-1,0,c - 1,-1,-1,0,0,0,0,0,0,0,v - 1⟩
 else if k = 11 then ⟨-1,-1,0,c - 1,-1,-1,0,0,0,0,0,0,0,v - 1⟩
 else if k = 12 then ⟨-1,-1,-1,-1,-1,-1,0,0,0,0,0,0,0,v - 1⟩
 else if k = 13 then ⟨-1,-1,-1,-1,0,r - 1,0,0,0,0,0,0,0,1⟩
 else if k = 14 then ⟨-1,-1,-1,-1,-1,-1,0,0,0,0,0,0,0,0⟩
 else if k = 15 then ⟨-1,-1,-1,-1,-1,-1,0,0,0,0,0,0,0,0⟩
 else if k = 16 then ⟨-1,-1,-1,-1,-1,-1,0,0,0,0,0,0,0,1073741824⟩
 else ⟨0,0,0,0,0,0,0,0,0,0,0,0,0,0⟩
noncomputable def zea:=fam (fun i : Int × Int × Int=>[V.agg [.int .i64 i.1,.int .i64 i.2.1],.int .i64 i.2.2]) (fun _=>[]) (fun _=>True) (fun i=>⟨.bool (inB i.2.2 i.1 i.2.1),[]⟩)
@[simp] theorem spanHasSp_eq {lo hi n : Int}  : zea ([V.agg [.int .i64 lo,.int .i64 hi],.int .i64 n]) ([]) = some (⟨.bool (inB n lo hi),[]⟩) :=
 zag (by rintro ⟨a0,a1,a2⟩ ⟨b0,b1,b2⟩ h h' <;> simp at h h' <;> simp_all) (lo,hi,n) trivial
theorem zh8 : Lift.Spec Tryz.prog 152 zea:=by
 refine zaj (C:=C0) zac C0_ok follows Tryz.func152 (by kernel_rfl) rfl (by kernel_rfl) rfl ?_
 rintro ⟨lo,hi,n⟩ _
 refine ⟨by simp,?_⟩
 intro r hr
 by_cases h : lo ≤ n <;> simp [h]
 all_goals (rw [hr]; refine zaa rfl ?_ rfl; simp [inB,h])
noncomputable def zgM:=fam (fun i : Int=>[V.int .i64 i]) (fun _=>[]) (fun i=>(0 ≤ i) ∧ (i ≤ 9223372036854775807)) (fun i=>⟨.agg [.int .i64 0,.int .i64 (i - 1)],[]⟩)
@[simp] theorem indicesSp_eq {n : Int} (h1 : 0 ≤ n) (h2 : n ≤ 9223372036854775807) : zgM ([V.int .i64 n]) ([]) = some (⟨.agg [.int .i64 0,.int .i64 (n - 1)],[]⟩) :=
 zag (by intro a b h h' <;> simp at h h' <;> simp_all) n ⟨h1,h2⟩
theorem znF : Lift.Spec Tryz.prog 180 zgM:=by
 refine zaj (C:=C0) zac C0_ok follows Tryz.func180 (by kernel_rfl) rfl (by kernel_rfl) rfl ?_
 rintro n ⟨h1,h2⟩
 try simp only at h1 h2
 refine ⟨by simp,?_⟩
 intro r hr
 have w : IntKind.i64.wrap (n - 1) = n - 1:=w64
 simp [w]
 rw [hr]; refine zaa rfl ?_ rfl
 simp
noncomputable def ziB:=fam (fun i : Int × Int=>[V.agg [.int .i64 i.1,.int .i64 i.2]]) (fun _=>[]) (fun _=>True) (fun i=>⟨.agg [.int .i64 (-1),.int .i64 i.2],[]⟩)
@[simp] theorem orNoneSp_eq {lo hi : Int}  : ziB ([V.agg [.int .i64 lo,.int .i64 hi]]) ([]) = some (⟨.agg [.int .i64 (-1),.int .i64 hi],[]⟩) :=
 zag (by rintro ⟨a0,a1⟩ ⟨b0,b1⟩ h h' <;> simp at h h' <;> simp_all) (lo,hi) trivial
theorem zpC : Lift.Spec Tryz.prog 182 ziB:=by
 refine zaj (C:=C0) zac C0_ok follows Tryz.func182 (by kernel_rfl) rfl (by kernel_rfl) rfl ?_
 rintro ⟨lo,hi⟩ _
 refine ⟨by simp,?_⟩
 intro r hr
 simp
 rw [hr]; refine zaa rfl ?_ rfl
 simp
noncomputable def ziS:=fam (fun _ : Unit=>[]) (fun _=>[]) (fun _=>True) (fun _=>⟨.agg [.int .i64 (-1),.int .i64 (-1),.int .i64 (-1),.int .i64 (-1),.int .i64 (-1),.int .i64 (-1),.int .i64 0,.int .i64 0,.int .i64 0,.int .i64 0,.int .i64 0,.int .i64 0,.int .i64 0,.int .i64 0],[]⟩)
@[simp] theorem unusedSp_eq : ziS [] [] = some ⟨.agg [.int .i64 (-1),.int .i64 (-1),.int .i64 (-1),.int .i64 (-1),.int .i64 (-1),.int .i64 (-1),.int .i64 0,.int .i64 0,.int .i64 0,.int .i64 0,.int .i64 0,.int .i64 0,.int .i64 0,.int .i64 0],[]⟩ :=
 zag (A:=fun _ : Unit=>[]) (fun _ _ _ _=>rfl) () trivial
theorem zqf : Lift.Spec Tryz.prog 181 ziS:=by
 refine zaj (C:=C0) zac C0_ok follows Tryz.func181 (by kernel_rfl) rfl (by kernel_rfl) rfl ?_
 rintro u _
 refine ⟨by simp,?_⟩
 intro r hr
 simp
 rw [hr]; refine zaa rfl ?_ rfl
 simp
def twB (e : GEntry) : Bool:=decide (e.Kind = 1 ∧ e.Other = e.Cell)
noncomputable def zhD:=fam (fun i : GEntry=>[zaB i]) (fun _=>[]) (fun _=>True) (fun i=>⟨.bool (twB i),[]⟩)
@[simp] theorem twiceSp_eq {e : GEntry}  : zhD ([zaB e]) ([]) = some (⟨.bool (twB e),[]⟩) :=
 zag (by intro a b h h' <;> simp at h h' <;> simp_all) e trivial
theorem zlF : Lift.Spec Tryz.prog 151 zhD:=by
 refine zaj (C:=C0) zac C0_ok follows Tryz.func151 (by kernel_rfl) rfl (by kernel_rfl) rfl ?_
 rintro e _
 refine ⟨by simp,?_⟩
 intro r hr
 by_cases h : e.Kind = 1 <;> simp [GEntry.cells,h]
 all_goals (rw [hr]; refine zaa rfl ?_ rfl; simp [twB,h])
noncomputable def CE1:=mkC [(152,zea),(180,zgM),(182,ziB),(181,ziS),(151,zhD)]
theorem zzL : zai Tryz.prog CE1:=zat (all_cons zh8 (all_cons znF (all_cons zpC (all_cons zqf (all_cons zlF all_nil)))))
@[simp] theorem CE1_1 : CE1 152 = zea:=rfl
@[simp] theorem CE1_2 : CE1 180 = zgM:=rfl
@[simp] theorem CE1_3 : CE1 182 = ziB:=rfl
@[simp] theorem CE1_4 : CE1 181 = ziS:=rfl
@[simp] theorem CE1_5 : CE1 151 = zhD:=rfl
noncomputable def ziD:=fam (fun i : Int × Int × Int × Int × Int=>[V.int .i64 i.1,.agg [.int .i64 i.2.1,.int .i64 i.2.2.1,.int .i64 i.2.2.2.1,.int .i64 i.2.2.2.2]]) (fun _=>[]) (fun i=>(0 ≤ i.2.1 ∧ i.2.1 ≤ 9223372036854775807) ∧ (0 ≤ i.2.2.1 ∧ i.2.2.1 ≤ 9223372036854775807) ∧ (0 ≤ i.2.2.2.1 ∧ i.2.2.2.1 ≤ 9223372036854775807) ∧ (0 ≤ i.2.2.2.2 ∧ i.2.2.2.2 ≤ 9223372036854775807)) (fun i=>⟨.tup [.agg (rngK i.1 i.2.1 i.2.2.1 i.2.2.2.1 i.2.2.2.2).cells,.bool (inB i.1 1 16)],[]⟩)
@[simp] theorem rangesSp_eq {k t c r v : Int} (h1 : 0 ≤ t ∧ t ≤ 9223372036854775807) (h2 : 0 ≤ c ∧ c ≤ 9223372036854775807) (h3 : 0 ≤ r ∧ r ≤ 9223372036854775807) (h4 : 0 ≤ v ∧ v ≤ 9223372036854775807) : ziD ([V.int .i64 k,.agg [.int .i64 t,.int .i64 c,.int .i64 r,.int .i64 v]]) ([]) = some (⟨.tup [.agg (rngK k t c r v).cells,.bool (inB k 1 16)],[]⟩) :=
 zag (by rintro ⟨a0,a1,a2,a3,a4⟩ ⟨b0,b1,b2,b3,b4⟩ h h' <;> simp at h h' <;> simp_all) (k,t,c,r,v) ⟨h1,h2,h3,h4⟩
set_option maxHeartbeats 40000000 in
theorem zpH : Lift.Spec Tryz.prog 150 ziD:=by
 refine zaj (C:=CE1) zac zzL follows Tryz.func150 (by kernel_rfl) rfl (by kernel_rfl) rfl ?_
 rintro ⟨k,t,c,r,v⟩ ⟨h1,h2,h3,h4⟩
 try simp only at h1 h2 h3 h4
 refine ⟨by simp,?_⟩
 intro r hr
 by_cases hk : ¬ (1 ≤ k ∧ k ≤ 16)
 ·have e : ∀ n : Int,1 ≤ n → n ≤ 16 → (k = n) = False:=fun n a b=>eq_false (by omega)
  simp [h1,h2,h3,h4,e]
  ((repeat refine dr ?_); rw [hr]; refine zaa rfl ?_ rfl; simp [rngK,GR.cells,inB,hk,e])
 ·replace hk : 1 ≤ k ∧ k ≤ 16:=Classical.byContradiction hk
  have : k = 1 ∨ k = 2 ∨ k = 3 ∨ k = 4 ∨ k = 5 ∨ k = 6 ∨ k = 7 ∨ k = 8 ∨ k = 9 ∨ k = 10 ∨ k = 11 ∨ k = 12 ∨ k = 13 ∨ k = 14 ∨ k = 15 ∨ k = 16:=by omega
  clear hk
  rcases this with rfl | rfl | rfl | rfl | rfl | rfl | rfl | rfl | rfl | rfl | rfl | rfl | rfl | rfl | rfl | rfl
  all_goals
   simp [h1,h2,h3,h4]
   ((repeat refine dr ?_); rw [hr]; refine zaa rfl ?_ rfl; simp [rngK,GR.cells,inB])
noncomputable def CE2:=mkC [(152,zea),(151,zhD),(150,ziD)]
theorem zzM : zai Tryz.prog CE2:=zat (all_cons zh8 (all_cons zlF (all_cons zpH all_nil)))
@[simp] theorem CE2_1 : CE2 152 = zea:=rfl
@[simp] theorem CE2_2 : CE2 151 = zhD:=rfl
@[simp] theorem CE2_3 : CE2 150 = ziD:=rfl
def inR (e : GEntry) (R : GR) : Bool :=
 inB e.Tick 0 1073741824 && (inB e.Tenant R.a0 R.a1 && (inB e.Cell R.b0 R.b1 && (inB e.Other R.c0 R.c1 && (inB e.Epoch R.d0 R.d1 && (inB e.From R.e0 R.e1 && (inB e.Until R.f0 R.f1 && inB e.N R.g0 R.g1))))))
def fitE (t c r v : Int) (e : GEntry) : Bool :=
 inB e.Kind 1 16 && (!(twB e) && inR e (rngK e.Kind t c r v))
noncomputable def zl8:=fam (fun i : GEntry × Int × Int × Int × Int=>[zaB i.1,.agg [.int .i64 i.2.1,.int .i64 i.2.2.1,.int .i64 i.2.2.2.1,.int .i64 i.2.2.2.2]]) (fun _=>[]) (fun i=>(0 ≤ i.2.1 ∧ i.2.1 ≤ 9223372036854775807) ∧ (0 ≤ i.2.2.1 ∧ i.2.2.1 ≤ 9223372036854775807) ∧ (0 ≤ i.2.2.2.1 ∧ i.2.2.2.1 ≤ 9223372036854775807) ∧ (0 ≤ i.2.2.2.2 ∧ i.2.2.2.2 ≤ 9223372036854775807)) (fun i=>⟨.bool (fitE i.2.1 i.2.2.1 i.2.2.2.1 i.2.2.2.2 i.1),[]⟩)
@[simp] theorem fitsESp_eq {e : GEntry} {t c g v : Int} (h1 : 0 ≤ t ∧ t ≤ 9223372036854775807) (h2 : 0 ≤ c ∧ c ≤ 9223372036854775807) (h3 : 0 ≤ g ∧ g ≤ 9223372036854775807) (h4 : 0 ≤ v ∧ v ≤ 9223372036854775807) : zl8 ([zaB e,.agg [.int .i64 t,.int .i64 c,.int .i64 g,.int .i64 v]]) ([]) = some (⟨.bool (fitE t c g v e),[]⟩) :=
 zag (by rintro ⟨a0,a1,a2,a3,a4⟩ ⟨b0,b1,b2,b3,b4⟩ h h' <;> simp at h h' <;> simp_all) (e,t,c,g,v) ⟨h1,h2,h3,h4⟩
set_option maxHeartbeats 40000000 in
theorem zrZ : Lift.Spec Tryz.prog 128 zl8:=by
 refine zaj (C:=CE2) zac zzM follows Tryz.func128 (by kernel_rfl) rfl (by kernel_rfl) rfl ?_
 rintro ⟨e,t,c,g,v⟩ ⟨h1,h2,h3,h4⟩
 try simp only at h1 h2 h3 h4
 refine ⟨by simp,?_⟩
 intro r hr
 have hR : ∃ R,R = rngK e.Kind t c g v:=⟨_,rfl⟩
 obtain ⟨R,hR⟩:=hR
 cases gg0 : inB e.Kind 1 16
 ·simp [GEntry.cells,h1,h2,h3,h4,← hR,GR.cells,gg0]
  ((repeat refine dr ?_); rw [hr]; refine zaa rfl ?_ rfl; simp [fitE,inR,← hR,gg0])
 cases gg1 : twB e
 rotate_left
 ·simp [GEntry.cells,h1,h2,h3,h4,← hR,GR.cells,gg0,gg1]
  ((repeat refine dr ?_); rw [hr]; refine zaa rfl ?_ rfl; simp [fitE,inR,← hR,gg0,gg1])
 cases gg2 : inB e.Tick 0 1073741824
 ·simp [GEntry.cells,h1,h2,h3,h4,← hR,GR.cells,gg0,gg1,gg2]
  ((repeat refine dr ?_); rw [hr]; refine zaa rfl ?_ rfl; simp [fitE,inR,← hR,gg0,gg1,gg2])
 cases gg3 : inB e.Tenant R.a0 R.a1
 ·simp [GEntry.cells,h1,h2,h3,h4,← hR,GR.cells,gg0,gg1,gg2,gg3]
  ((repeat refine dr ?_); rw [hr]; refine zaa rfl ?_ rfl; simp [fitE,inR,← hR,gg0,gg1,gg2,gg3])
 cases gg4 : inB e.Cell R.b0 R.b1
 ·simp [GEntry.cells,h1,h2,h3,h4,← hR,GR.cells,gg0,gg1,gg2,gg3,gg4]
  ((repeat refine dr ?_); rw [hr]; refine zaa rfl ?_ rfl; simp [fitE,inR,← hR,gg0,gg1,gg2,gg3,gg4])
 cases gg5 : inB e.Other R.c0 R.c1
 ·simp [GEntry.cells,h1,h2,h3,h4,← hR,GR.cells,gg0,gg1,gg2,gg3,gg4,gg5]
  ((repeat refine dr ?_); rw [hr]; refine zaa rfl ?_ rfl; simp [fitE,inR,← hR,gg0,gg1,gg2,gg3,gg4,gg5])
 cases gg6 : inB e.Epoch R.d0 R.d1
 ·simp [GEntry.cells,h1,h2,h3,h4,← hR,GR.cells,gg0,gg1,gg2,gg3,gg4,gg5,gg6]
  ((repeat refine dr ?_); rw [hr]; refine zaa rfl ?_ rfl; simp [fitE,inR,← hR,gg0,gg1,gg2,gg3,gg4,gg5,gg6])
 cases gg7 : inB e.From R.e0 R.e1
 ·simp [GEntry.cells,h1,h2,h3,h4,← hR,GR.cells,gg0,gg1,gg2,gg3,gg4,gg5,gg6,gg7]
  ((repeat refine dr ?_); rw [hr]; refine zaa rfl ?_ rfl; simp [fitE,inR,← hR,gg0,gg1,gg2,gg3,gg4,gg5,gg6,gg7])
 cases gg8 : inB e.Until R.f0 R.f1
 ·simp [GEntry.cells,h1,h2,h3,h4,← hR,GR.cells,gg0,gg1,gg2,gg3,gg4,gg5,gg6,gg7,gg8]
  ((repeat refine dr ?_); rw [hr]; refine zaa rfl ?_ rfl; simp [fitE,inR,← hR,gg0,gg1,gg2,gg3,gg4,gg5,gg6,gg7,gg8])
 simp [GEntry.cells,h1,h2,h3,h4,← hR,GR.cells,gg0,gg1,gg2,gg3,gg4,gg5,gg6,gg7,gg8]
 ((repeat refine dr ?_); rw [hr]; refine zaa rfl ?_ rfl; simp [fitE,inR,← hR,gg0,gg1,gg2,gg3,gg4,gg5,gg6,gg7,gg8])
noncomputable def CE3:=mkC [(128,zl8)]
theorem zzN : zai Tryz.prog CE3:=zat (all_cons zrZ all_nil)
@[simp] theorem CE3_1 : CE3 128 = zl8:=rfl
def zbj (e : GEntry) : Bool:=fitE 32 16 4 30 e
noncomputable def zcz:=fam (fun i : GEntry=>[zaB i]) (fun _=>[]) (fun _=>True) (fun i=>⟨.bool (zbj i),[]⟩)
@[simp] theorem shapeSp_eq {e : GEntry}  : zcz ([zaB e]) ([]) = some (⟨.bool (zbj e),[]⟩) :=
 zag (by intro a b h h' <;> simp at h h' <;> simp_all) e trivial
theorem zhB : Lift.Spec Tryz.prog 104 zcz:=by
 refine zaj (C:=CE3) zac zzN follows Tryz.func104 (by kernel_rfl) rfl (by kernel_rfl) rfl ?_
 rintro e _
 refine ⟨by simp,?_⟩
 intro r hr
 simp [GEntry.cells]
 ((repeat refine dr ?_); rw [hr]; refine zaa rfl ?_ rfl; simp [zbj])
end Go.Proofs.YtcpdgbncekdicaaGreat

namespace Go.Proofs.YtcpdgbncekdicaaGreat
open Go.Lift
def usesN : List ByteArray:=[⟨#[]⟩,⟨#[116,99,111]⟩,⟨#[116,99,101,119,118]⟩,⟨#[116,101]⟩,⟨#[116,67]⟩,⟨#[116,99]⟩,⟨#[116,99]⟩,⟨#[116]⟩,⟨#[116,98]⟩,⟨#[99,109]⟩,⟨#[99,118]⟩,⟨#[99,118]⟩,⟨#[118]⟩,⟨#[114,98]⟩,⟨#[]⟩,⟨#[]⟩,⟨#[110]⟩]
def usesS (k : Int) : ByteArray:=if 1 ≤ k ∧ k < 17 then usesN.getD k.toNat ⟨#[]⟩ else ⟨#[63]⟩
def hasS (s : ByteArray) (c : Int) : Bool:=s.data.toList.any fun b=>decide ((b.toNat : Int) = c)
def hasK (k c : Int) : Bool:=hasS (usesS k) c
theorem kinds {k : Int} (h : 1 ≤ k ∧ k ≤ 16) : k = 1 ∨ k = 2 ∨ k = 3 ∨ k = 4 ∨ k = 5 ∨ k = 6 ∨ k = 7 ∨ k = 8 ∨ k = 9 ∨ k = 10 ∨ k = 11 ∨ k = 12 ∨ k = 13 ∨ k = 14 ∨ k = 15 ∨ k = 16:=by omega
@[simp] theorem hasK_1_116 : hasK 1 116 = true:=rfl
@[simp] theorem hasK_1_99 : hasK 1 99 = true:=rfl
@[simp] theorem hasK_1_67 : hasK 1 67 = false:=rfl
@[simp] theorem hasK_1_111 : hasK 1 111 = true:=rfl
@[simp] theorem hasK_1_114 : hasK 1 114 = false:=rfl
@[simp] theorem hasK_1_101 : hasK 1 101 = false:=rfl
@[simp] theorem hasK_1_119 : hasK 1 119 = false:=rfl
@[simp] theorem hasK_1_118 : hasK 1 118 = false:=rfl
@[simp] theorem hasK_1_98 : hasK 1 98 = false:=rfl
@[simp] theorem hasK_1_109 : hasK 1 109 = false:=rfl
@[simp] theorem hasK_1_110 : hasK 1 110 = false:=rfl
@[simp] theorem hasK_2_116 : hasK 2 116 = true:=rfl
@[simp] theorem hasK_2_99 : hasK 2 99 = true:=rfl
@[simp] theorem hasK_2_67 : hasK 2 67 = false:=rfl
@[simp] theorem hasK_2_111 : hasK 2 111 = false:=rfl
@[simp] theorem hasK_2_114 : hasK 2 114 = false:=rfl
@[simp] theorem hasK_2_101 : hasK 2 101 = true:=rfl
@[simp] theorem hasK_2_119 : hasK 2 119 = true:=rfl
@[simp] theorem hasK_2_118 : hasK 2 118 = true:=rfl
@[simp] theorem hasK_2_98 : hasK 2 98 = false:=rfl
@[simp] theorem hasK_2_109 : hasK 2 109 = false:=rfl
@[simp] theorem hasK_2_110 : hasK 2 110 = false:=rfl
@[simp] theorem hasK_3_116 : hasK 3 116 = true:=rfl
@[simp] theorem hasK_3_99 : hasK 3 99 = false:=rfl
@[simp] theorem hasK_3_67 : hasK 3 67 = false:=rfl
@[simp] theorem hasK_3_111 : hasK 3 111 = false:=rfl
@[simp] theorem hasK_3_114 : hasK 3 114 = false:=rfl
@[simp] theorem hasK_3_101 : hasK 3 101 = true:=rfl
@[simp] theorem hasK_3_119 : hasK 3 119 = false:=rfl
@[simp] theorem hasK_3_118 : hasK 3 118 = false:=rfl
@[simp] theorem hasK_3_98 : hasK 3 98 = false:=rfl
@[simp] theorem hasK_3_109 : hasK 3 109 = false:=rfl
@[simp] theorem hasK_3_110 : hasK 3 110 = false:=rfl
@[simp] theorem hasK_4_116 : hasK 4 116 = true:=rfl
@[simp] theorem hasK_4_99 : hasK 4 99 = false:=rfl
@[simp] theorem hasK_4_67 : hasK 4 67 = true:=rfl
@[simp] theorem hasK_4_111 : hasK 4 111 = false:=rfl
@[simp] theorem hasK_4_114 : hasK 4 114 = false:=rfl
@[simp] theorem hasK_4_101 : hasK 4 101 = false:=rfl
@[simp] theorem hasK_4_119 : hasK 4 119 = false:=rfl
@[simp] theorem hasK_4_118 : hasK 4 118 = false:=rfl
@[simp] theorem hasK_4_98 : hasK 4 98 = false:=rfl
@[simp] theorem hasK_4_109 : hasK 4 109 = false:=rfl
@[simp] theorem hasK_4_110 : hasK 4 110 = false:=rfl
@[simp] theorem hasK_5_116 : hasK 5 116 = true:=rfl
@[simp] theorem hasK_5_99 : hasK 5 99 = true:=rfl
@[simp] theorem hasK_5_67 : hasK 5 67 = false:=rfl
@[simp] theorem hasK_5_111 : hasK 5 111 = false:=rfl
@[simp] theorem hasK_5_114 : hasK 5 114 = false:=rfl
@[simp] theorem hasK_5_101 : hasK 5 101 = false:=rfl
@[simp] theorem hasK_5_119 : hasK 5 119 = false:=rfl
@[simp] theorem hasK_5_118 : hasK 5 118 = false:=rfl
@[simp] theorem hasK_5_98 : hasK 5 98 = false:=rfl
@[simp] theorem hasK_5_109 : hasK 5 109 = false:=rfl
@[simp] theorem hasK_5_110 : hasK 5 110 = false:=rfl
@[simp] theorem hasK_6_116 : hasK 6 116 = true:=rfl
@[simp] theorem hasK_6_99 : hasK 6 99 = true:=rfl
@[simp] theorem hasK_6_67 : hasK 6 67 = false:=rfl
@[simp] theorem hasK_6_111 : hasK 6 111 = false:=rfl
@[simp] theorem hasK_6_114 : hasK 6 114 = false:=rfl
@[simp] theorem hasK_6_101 : hasK 6 101 = false:=rfl
@[simp] theorem hasK_6_119 : hasK 6 119 = false:=rfl
@[simp] theorem hasK_6_118 : hasK 6 118 = false:=rfl
@[simp] theorem hasK_6_98 : hasK 6 98 = false:=rfl
@[simp] theorem hasK_6_109 : hasK 6 109 = false:=rfl
@[simp] theorem hasK_6_110 : hasK 6 110 = false:=rfl
@[simp] theorem hasK_7_116 : hasK 7 116 = true:=rfl
@[simp] theorem hasK_7_99 : hasK 7 99 = false:=rfl
@[simp] theorem hasK_7_67 : hasK 7 67 = false:=rfl
@[simp] theorem hasK_7_111 : hasK 7 111 = false:=rfl
@[simp] theorem hasK_7_114 : hasK 7 114 = false:=rfl
@[simp] theorem hasK_7_101 : hasK 7 101 = false:=rfl
@[simp] theorem hasK_7_119 : hasK 7 119 = false:=rfl
@[simp] theorem hasK_7_118 : hasK 7 118 = false:=rfl
@[simp] theorem hasK_7_98 : hasK 7 98 = false:=rfl
@[simp] theorem hasK_7_109 : hasK 7 109 = false:=rfl
@[simp] theorem hasK_7_110 : hasK 7 110 = false:=rfl
@[simp] theorem hasK_8_116 : hasK 8 116 = true:=rfl
@[simp] theorem hasK_8_99 : hasK 8 99 = false:=rfl
@[simp] theorem hasK_8_67 : hasK 8 67 = false:=rfl
@[simp] theorem hasK_8_111 : hasK 8 111 = false:=rfl
@[simp] theorem hasK_8_114 : hasK 8 114 = false:=rfl
@[simp] theorem hasK_8_101 : hasK 8 101 = false:=rfl
@[simp] theorem hasK_8_119 : hasK 8 119 = false:=rfl
@[simp] theorem hasK_8_118 : hasK 8 118 = false:=rfl
@[simp] theorem hasK_8_98 : hasK 8 98 = true:=rfl
@[simp] theorem hasK_8_109 : hasK 8 109 = false:=rfl
@[simp] theorem hasK_8_110 : hasK 8 110 = false:=rfl
@[simp] theorem hasK_9_116 : hasK 9 116 = false:=rfl
@[simp] theorem hasK_9_99 : hasK 9 99 = true:=rfl
@[simp] theorem hasK_9_67 : hasK 9 67 = false:=rfl
@[simp] theorem hasK_9_111 : hasK 9 111 = false:=rfl
@[simp] theorem hasK_9_114 : hasK 9 114 = false:=rfl
@[simp] theorem hasK_9_101 : hasK 9 101 = false:=rfl
@[simp] theorem hasK_9_119 : hasK 9 119 = false:=rfl
@[simp] theorem hasK_9_118 : hasK 9 118 = false:=rfl
@[simp] theorem hasK_9_98 : hasK 9 98 = false:=rfl
@[simp] theorem hasK_9_109 : hasK 9 109 = true:=rfl
@[simp] theorem hasK_9_110 : hasK 9 110 = false:=rfl
@[simp] theorem hasK_10_116 : hasK 10 116 = false:=rfl
@[simp] theorem hasK_10_99 : hasK 10 99 = true:=rfl
@[simp] theorem hasK_10_67 : hasK 10 67 = false:=rfl
@[simp] theorem hasK_10_111 : hasK 10 111 = false:=rfl
@[simp] theorem hasK_10_114 : hasK 10 114 = false:=rfl
@[simp] theorem hasK_10_101 : hasK 10 101 = false:=rfl
@[simp] theorem hasK_10_119 : hasK 10 119 = false:=rfl
@[simp] theorem hasK_10_118 : hasK 10 118 = true:=rfl
@[simp] theorem hasK_10_98 : hasK 10 98 = false:=rfl
@[simp] theorem hasK_10_109 : hasK 10 109 = false:=rfl
@[simp] theorem hasK_10_110 : hasK 10 110 = false:=rfl
@[simp] theorem hasK_11_116 : hasK 11 116 = false:=rfl
@[simp] theorem hasK_11_99 : hasK 11 99 = true:=rfl
@[simp] theorem hasK_11_67 : hasK 11 67 = false:=rfl
@[simp] theorem hasK_11_111 : hasK 11 111 = false:=rfl
@[simp] theorem hasK_11_114 : hasK 11 114 = false:=rfl
@[simp] theorem hasK_11_101 : hasK 11 101 = false:=rfl
@[simp] theorem hasK_11_119 : hasK 11 119 = false:=rfl
@[simp] theorem hasK_11_118 : hasK 11 118 = true:=rfl
@[simp] theorem hasK_11_98 : hasK 11 98 = false:=rfl
@[simp] theorem hasK_11_109 : hasK 11 109 = false:=rfl
@[simp] theorem hasK_11_110 : hasK 11 110 = false:=rfl
@[simp] theorem hasK_12_116 : hasK 12 116 = false:=rfl
@[simp] theorem hasK_12_99 : hasK 12 99 = false:=rfl
@[simp] theorem hasK_12_67 : hasK 12 67 = false:=rfl
@[simp] theorem hasK_12_111 : hasK 12 111 = false:=rfl
@[simp] theorem hasK_12_114 : hasK 12 114 = false:=rfl
@[simp] theorem hasK_12_101 : hasK 12 101 = false:=rfl
@[simp] theorem hasK_12_119 : hasK 12 119 = false:=rfl
@[simp] theorem hasK_12_118 : hasK 12 118 = true:=rfl
@[simp] theorem hasK_12_98 : hasK 12 98 = false:=rfl
@[simp] theorem hasK_12_109 : hasK 12 109 = false:=rfl
@[simp] theorem hasK_12_110 : hasK 12 110 = false:=rfl
@[simp] theorem hasK_13_116 : hasK 13 116 = false:=rfl
@[simp] theorem hasK_13_99 : hasK 13 99 = false:=rfl
@[simp] theorem hasK_13_67 : hasK 13 67 = false:=rfl
@[simp] theorem hasK_13_111 : hasK 13 111 = false:=rfl
@[simp] theorem hasK_13_114 : hasK 13 114 = true:=rfl
@[simp] theorem hasK_13_101 : hasK 13 101 = false:=rfl
@[simp] theorem hasK_13_119 : hasK 13 119 = false:=rfl
@[simp] theorem hasK_13_118 : hasK 13 118 = false:=rfl
@[simp] theorem hasK_13_98 : hasK 13 98 = true:=rfl
@[simp] theorem hasK_13_109 : hasK 13 109 = false:=rfl
@[simp] theorem hasK_13_110 : hasK 13 110 = false:=rfl
@[simp] theorem hasK_14_116 : hasK 14 116 = false:=rfl
@[simp] theorem hasK_14_99 : hasK 14 99 = false:=rfl
@[simp] theorem hasK_14_67 : hasK 14 67 = false:=rfl
@[simp] theorem hasK_14_111 : hasK 14 111 = false:=rfl
@[simp] theorem hasK_14_114 : hasK 14 114 = false:=rfl
@[simp] theorem hasK_14_101 : hasK 14 101 = false:=rfl
@[simp] theorem hasK_14_119 : hasK 14 119 = false:=rfl
@[simp] theorem hasK_14_118 : hasK 14 118 = false:=rfl
@[simp] theorem hasK_14_98 : hasK 14 98 = false:=rfl
@[simp] theorem hasK_14_109 : hasK 14 109 = false:=rfl
@[simp] theorem hasK_14_110 : hasK 14 110 = false:=rfl
@[simp] theorem hasK_15_116 : hasK 15 116 = false:=rfl
@[simp] theorem hasK_15_99 : hasK 15 99 = false:=rfl
@[simp] theorem hasK_15_67 : hasK 15 67 = false:=rfl
@[simp] theorem hasK_15_111 : hasK 15 111 = false:=rfl
@[simp] theorem hasK_15_114 : hasK 15 114 = false:=rfl
@[simp] theorem hasK_15_101 : hasK 15 101 = false:=rfl
@[simp] theorem hasK_15_119 : hasK 15 119 = false:=rfl
@[simp] theorem hasK_15_118 : hasK 15 118 = false:=rfl
@[simp] theorem hasK_15_98 : hasK 15 98 = false:=rfl
@[simp] theorem hasK_15_109 : hasK 15 109 = false:=rfl
@[simp] theorem hasK_15_110 : hasK 15 110 = false:=rfl
@[simp] theorem hasK_16_116 : hasK 16 116 = false:=rfl
@[simp] theorem hasK_16_99 : hasK 16 99 = false:=rfl
@[simp] theorem hasK_16_67 : hasK 16 67 = false:=rfl
@[simp] theorem hasK_16_111 : hasK 16 111 = false:=rfl
@[simp] theorem hasK_16_114 : hasK 16 114 = false:=rfl
@[simp] theorem hasK_16_101 : hasK 16 101 = false:=rfl
@[simp] theorem hasK_16_119 : hasK 16 119 = false:=rfl
@[simp] theorem hasK_16_118 : hasK 16 118 = false:=rfl
@[simp] theorem hasK_16_98 : hasK 16 98 = false:=rfl
@[simp] theorem hasK_16_109 : hasK 16 109 = false:=rfl
@[simp] theorem hasK_16_110 : hasK 16 110 = true:=rfl
noncomputable def zrj:=fam (fun i : Int=>[V.int .i64 i]) (fun _=>[]) (fun _=>True) (fun i=>⟨.str (usesS i),[]⟩)
@[simp] theorem usesSp_eq {k : Int}  : zrj ([V.int .i64 k]) ([]) = some (⟨.str (usesS k),[]⟩) :=
 zag (by intro a b h h' <;> simp at h h' <;> simp_all) k trivial
set_option maxRecDepth 100000 in
theorem zvF : Lift.Spec Tryz.prog 203 zrj:=by
 refine zaj (C:=C0) zac C0_ok follows Tryz.func203 (by kernel_rfl) rfl (by kernel_rfl) rfl ?_
 rintro k _
 refine ⟨by simp,?_⟩
 intro r hr
 by_cases h1 : k < 1
 ·simp [h1]
  ((repeat refine dr ?_); rw [hr]; refine zaa rfl ?_ rfl; simp [usesS,show ¬ (1 ≤ k ∧ k < 17) by omega])
 ·by_cases h2 : 17 ≤ k
  ·simp [h1,h2]
   ((repeat refine dr ?_); rw [hr]; refine zaa rfl ?_ rfl; simp [usesS,show ¬ (1 ≤ k ∧ k < 17) by omega])
  ·rcases kinds (k:=k) (by omega) with rfl | rfl | rfl | rfl | rfl | rfl | rfl | rfl | rfl | rfl | rfl | rfl | rfl | rfl | rfl | rfl
   all_goals
    simp
    ((repeat refine dr ?_); rw [hr]; refine zaa rfl ?_ rfl; simp [usesS,usesN])
noncomputable def CE5:=mkC [(203,zrj)]
theorem zzO : zai Tryz.prog CE5:=zat (all_cons zvF all_nil)
@[simp] theorem CE5_1 : CE5 203 = zrj:=rfl
theorem zwu {s : List UInt8} {c : Int} {i : Nat} (h : ((s.take i).any fun b=>decide ((b.toNat : Int) = c)) = false) {x : UInt8} (hx : s[i]? = some x) (hc : ¬ (x.toNat : Int) = c) : ((s.take (i + 1)).any fun b=>decide ((b.toNat : Int) = c)) = false:=by
 rw [List.take_add_one,hx,List.any_append,h]; simp [hc]
def NotTo (s : ByteArray) (c : Int) (i : Nat) : Prop:=((s.data.toList.take i).any fun b=>decide ((b.toNat : Int) = c)) = false
noncomputable def zqQ:=fam (fun i : Int × Int=>[V.int .i64 i.1,.int .u8 i.2]) (fun _=>[]) (fun _=>True) (fun i=>⟨.bool (hasK i.1 i.2),[]⟩)
@[simp] theorem hasKSp_eq {k c : Int}  : zqQ ([V.int .i64 k,.int .u8 c]) ([]) = some (⟨.bool (hasK k c),[]⟩) :=
 zag (by rintro ⟨a0,a1⟩ ⟨b0,b1⟩ h h' <;> simp at h h' <;> simp_all) (k,c) trivial
def hasSt (s : ByteArray) (c : Int) (i : Nat) : St:=mkSt [(1,.int .u8 c),(5,.str s),(6,.int .i64 i)] [] 0
theorem zqg : ∀ s ∈ usesN,s.data.toList.length ≤ 5:=by decide
theorem zqh (k : Int) : (usesS k).data.toList.length ≤ 5:=by
 unfold usesS
 split
 ·rename_i h
  have hk : k.toNat < usesN.length:=by simp [usesN]; omega
  rw [List.getD_eq_getElem?_getD,List.getElem?_eq_getElem hk]
  exact zqg _ (List.getElem_mem hk)
 ·decide
theorem zuw : Lift.Spec Tryz.prog 188 zqQ:=by
 refine zaj (C:=CE5) zac zzO follows Tryz.func188 (by kernel_rfl) rfl (by kernel_rfl) rfl ?_
 rintro ⟨k,c⟩ _
 refine ⟨by simp,?_⟩
 intro r hr
 simp
 have hlen:=zqh k
 have hd : hasK k c = hasS (usesS k) c:=rfl
 generalize usesS k = s at *
 have hsz : s.size = s.data.toList.length:=rfl
 refine zal (hasSt s c) (fun i=>i ≤ s.size ∧ NotTo s c i) (fun i=>s.size - i) 0 ?_ ⟨Nat.zero_le _,by simp [NotTo]⟩ ?_
 ·refine zaW id ?_ ?_ ?_ ?_ <;> simp
 ·rintro i ⟨hi,hn⟩
  by_cases hik : i < s.size
  ·obtain ⟨x,hx,hx',_⟩:=zav (l:=s.data.toList) (k:=i) (by omega)
   have hx2 : s.data[i]'hik = x:=by simpa using hx'
   have w4 : IntKind.i64.wrap ((i : Int) + 1) = (i : Int) + 1:=w64
   by_cases hc : (x.toNat : Int) = c
   ·simp [hasSt,hik,hx2,hc]
    rw [hr]; refine zaa rfl ?_ rfl
    have : hasS s c = true:=List.any_eq_true.2 ⟨x,List.mem_of_getElem? hx,by simp [hc]⟩
    simp [hd,this]
   ·simp [hasSt,hik,hx2,hc]
    refine Again.mk (i + 1) ⟨hik,zwu hn hx hc⟩ (by omega) ?_
    refine zaW id ?_ ?_ ?_ ?_ <;> simp [w4]
  ·have e : i = s.size:=by omega
   subst e
   simp [hasSt]
   rw [hr]; refine zaa rfl ?_ rfl
   have : hasS s c = false:=by unfold NotTo at hn; rw [hsz,List.take_length] at hn; exact hn
   simp [hd,this]
noncomputable def inSp:=fam (fun i : Int × Int × Int=>[V.int .i64 i.1,.int .i64 i.2.1,.int .i64 i.2.2]) (fun _=>[]) (fun _=>True) (fun i=>⟨.bool (inB i.1 i.2.1 i.2.2),[]⟩)
@[simp] theorem inSp_eq {n lo hi : Int}  : inSp ([V.int .i64 n,.int .i64 lo,.int .i64 hi]) ([]) = some (⟨.bool (inB n lo hi),[]⟩) :=
 zag (by rintro ⟨a0,a1,a2⟩ ⟨b0,b1,b2⟩ h h' <;> simp at h h' <;> simp_all) (n,lo,hi) trivial
theorem zqU : Lift.Spec Tryz.prog 161 inSp:=by
 refine zaj (C:=C0) zac C0_ok follows Tryz.func161 (by kernel_rfl) rfl (by kernel_rfl) rfl ?_
 rintro ⟨n,lo,hi⟩ _
 refine ⟨by simp,?_⟩
 intro r hr
 by_cases h : lo ≤ n <;> simp [h]
 all_goals (rw [hr]; refine zaa rfl ?_ rfl; simp [inB,h])
noncomputable def CE6:=mkC [(188,zqQ),(161,inSp)]
theorem zx9 : zai Tryz.prog CE6:=zat (all_cons zuw (all_cons zqU all_nil))
@[simp] theorem CE6_1 : CE6 188 = zqQ:=rfl
@[simp] theorem CE6_2 : CE6 161 = inSp:=rfl
end Go.Proofs.YtcpdgbncekdicaaGreat

namespace Go.Proofs.YtcpdgbncekdicaaGreat
open Go.Lift
theorem zaf (n a : Int) : inB n a a = decide (n = a):=by
 unfold inB
 exact decide_eq_decide.2 (by omega)
theorem zei (m : Int) : inB (-1) 0 m = false:=by simp [inB]
def plR (e : GEntry) (R : GR) : Bool:=inB e.Tenant R.a0 R.a1 && (inB e.Cell R.b0 R.b1 && inB e.Other R.c0 R.c1)
def zar (e : GEntry) (t c r : Int) : Bool:=plR e (rngK e.Kind t c r 0) && !twB e
def nuR (e : GEntry) (R : GR) : Bool:=inB e.Epoch R.d0 R.d1 && (inB e.From R.e0 R.e1 && (inB e.Until R.f0 R.f1 && inB e.N R.g0 R.g1))
def zap (e : GEntry) (v : Int) : Bool:=nuR e (rngK e.Kind 0 0 0 v)
noncomputable def ziC:=fam (fun i : GEntry × Int × Int × Int=>[zaB i.1,.int .i64 i.2.1,.int .i64 i.2.2.1,.int .i64 i.2.2.2]) (fun _=>[]) (fun i=>(1 ≤ i.1.Kind ∧ i.1.Kind ≤ 16) ∧ (0 ≤ i.2.1 ∧ i.2.1 ≤ 9223372036854775807) ∧ (0 ≤ i.2.2.1 ∧ i.2.2.1 ≤ 9223372036854775807) ∧ (0 ≤ i.2.2.2 ∧ i.2.2.2 ≤ 9223372036854775807)) (fun i=>⟨.bool (zar i.1 i.2.1 i.2.2.1 i.2.2.2),[]⟩)
@[simp] theorem placesSp_eq {e : GEntry} {t c g : Int} (h1 : 1 ≤ e.Kind ∧ e.Kind ≤ 16) (h2 : 0 ≤ t ∧ t ≤ 9223372036854775807) (h3 : 0 ≤ c ∧ c ≤ 9223372036854775807) (h4 : 0 ≤ g ∧ g ≤ 9223372036854775807) : ziC ([zaB e,.int .i64 t,.int .i64 c,.int .i64 g]) ([]) = some (⟨.bool (zar e t c g),[]⟩) :=
 zag (by rintro ⟨a0,a1,a2,a3⟩ ⟨b0,b1,b2,b3⟩ h h' <;> simp at h h' <;> simp_all) (e,t,c,g) ⟨h1,h2,h3,h4⟩
set_option maxHeartbeats 40000000 in
theorem zpF : Lift.Spec Tryz.prog 162 ziC:=by
 refine zaj (C:=CE6) zac zx9 follows Tryz.func162 (by kernel_rfl) rfl (by kernel_rfl) rfl ?_
 rintro ⟨e,t,c,g⟩ ⟨h1,h2,h3,h4⟩
 try simp only at h1 h2 h3 h4
 refine ⟨by simp,?_⟩
 intro r hr
 have w1 : IntKind.i64.wrap (t - 1) = t - 1:=w64
 have w2 : IntKind.i64.wrap (c - 1) = c - 1:=w64
 have w3 : IntKind.i64.wrap (g - 1) = g - 1:=w64
 obtain ⟨kd,tk,tn,ce,ot,ep,fr,un,n⟩:=e
 simp only at h1
 rcases kinds h1 with rfl | rfl | rfl | rfl | rfl | rfl | rfl | rfl | rfl | rfl | rfl | rfl | rfl | rfl | rfl | rfl
 ·clear h1
  by_cases hoc : ot = ce
  ·subst hoc
   by_cases gg0 : (tn = -1)
   ·simp [GEntry.cells,gg0]
    ((repeat refine dr ?_); rw [hr]; refine zaa rfl ?_ rfl; simp [zar,plR,rngK,twB,zei,gg0])
   cases gg1 : inB tn 0 (t - 1)
   ·simp [GEntry.cells,w1,gg0,gg1]
    ((repeat refine dr ?_); rw [hr]; refine zaa rfl ?_ rfl; simp [zar,plR,rngK,twB,gg1])
   cases gg2 : inB ot 0 (c - 1)
   ·simp [GEntry.cells,w1,w2,gg0,gg1,gg2]
    ((repeat refine dr ?_); rw [hr]; refine zaa rfl ?_ rfl; simp [zar,plR,rngK,twB,gg1,gg2])
   cases gg3 : inB ot (-1) (c - 1)
   ·simp [GEntry.cells,w1,w2,gg0,gg1,gg2,gg3]
    ((repeat refine dr ?_); rw [hr]; refine zaa rfl ?_ rfl; simp [zar,plR,rngK,twB,gg1,gg2,gg3])
   simp [GEntry.cells,w1,w2,gg0,gg1,gg2,gg3]
   ((repeat refine dr ?_); rw [hr]; refine zaa rfl ?_ rfl; simp [zar,plR,rngK,twB,gg1,gg2,gg3])
  by_cases gg0 : (tn = -1)
  ·simp [GEntry.cells,gg0]
   ((repeat refine dr ?_); rw [hr]; refine zaa rfl ?_ rfl; simp [zar,plR,rngK,twB,zei,hoc,gg0])
  cases gg1 : inB tn 0 (t - 1)
  ·simp [GEntry.cells,w1,gg0,gg1]
   ((repeat refine dr ?_); rw [hr]; refine zaa rfl ?_ rfl; simp [zar,plR,rngK,twB,hoc,gg1])
  cases gg2 : inB ce 0 (c - 1)
  ·simp [GEntry.cells,w1,w2,gg0,gg1,gg2]
   ((repeat refine dr ?_); rw [hr]; refine zaa rfl ?_ rfl; simp [zar,plR,rngK,twB,hoc,gg1,gg2])
  cases gg3 : inB ot (-1) (c - 1)
  ·simp [GEntry.cells,w1,w2,gg0,gg1,gg2,gg3]
   ((repeat refine dr ?_); rw [hr]; refine zaa rfl ?_ rfl; simp [zar,plR,rngK,twB,hoc,gg1,gg2,gg3])
  simp [GEntry.cells,w1,w2,hoc,gg0,gg1,gg2,gg3]
  ((repeat refine dr ?_); rw [hr]; refine zaa rfl ?_ rfl; simp [zar,plR,rngK,twB,hoc,gg1,gg2,gg3])
 ·clear h1
  by_cases gg0 : (tn = -1)
  ·simp [GEntry.cells,gg0]
   ((repeat refine dr ?_); rw [hr]; refine zaa rfl ?_ rfl; simp [zar,plR,rngK,twB,zaf,zei,gg0])
  cases gg1 : inB tn 0 (t - 1)
  ·simp [GEntry.cells,w1,gg0,gg1]
   ((repeat refine dr ?_); rw [hr]; refine zaa rfl ?_ rfl; simp [zar,plR,rngK,twB,zaf,gg1])
  cases gg2 : inB ce 0 (c - 1)
  ·simp [GEntry.cells,w1,w2,gg0,gg1,gg2]
   ((repeat refine dr ?_); rw [hr]; refine zaa rfl ?_ rfl; simp [zar,plR,rngK,twB,zaf,gg1,gg2])
  by_cases gg3 : ¬ (ot = -1)
  ·simp [GEntry.cells,w1,w2,gg0,gg1,gg2,gg3]
   ((repeat refine dr ?_); rw [hr]; refine zaa rfl ?_ rfl; simp [zar,plR,rngK,twB,zaf,gg1,gg2,gg3])
  replace gg3 : ot = -1:=Classical.byContradiction gg3
  simp [GEntry.cells,w1,w2,gg0,gg1,gg2,gg3]
  ((repeat refine dr ?_); rw [hr]; refine zaa rfl ?_ rfl; simp [zar,plR,rngK,twB,zaf,gg1,gg2,gg3])
 ·clear h1
  by_cases gg0 : (tn = -1)
  ·simp [GEntry.cells,gg0]
   ((repeat refine dr ?_); rw [hr]; refine zaa rfl ?_ rfl; simp [zar,plR,rngK,twB,zaf,zei,gg0])
  cases gg1 : inB tn 0 (t - 1)
  ·simp [GEntry.cells,w1,gg0,gg1]
   ((repeat refine dr ?_); rw [hr]; refine zaa rfl ?_ rfl; simp [zar,plR,rngK,twB,zaf,gg1])
  by_cases gg2 : ¬ (ce = -1)
  ·simp [GEntry.cells,w1,gg0,gg1,gg2]
   ((repeat refine dr ?_); rw [hr]; refine zaa rfl ?_ rfl; simp [zar,plR,rngK,twB,zaf,gg1,gg2])
  replace gg2 : ce = -1:=Classical.byContradiction gg2
  by_cases gg3 : ¬ (ot = -1)
  ·simp [GEntry.cells,w1,gg0,gg1,gg2,gg3]
   ((repeat refine dr ?_); rw [hr]; refine zaa rfl ?_ rfl; simp [zar,plR,rngK,twB,zaf,gg1,gg2,gg3])
  replace gg3 : ot = -1:=Classical.byContradiction gg3
  simp [GEntry.cells,w1,gg0,gg1,gg2,gg3]
  ((repeat refine dr ?_); rw [hr]; refine zaa rfl ?_ rfl; simp [zar,plR,rngK,twB,zaf,gg1,gg2,gg3])
 ·clear h1
  by_cases gg0 : (tn = -1)
  ·simp [GEntry.cells,gg0]
   ((repeat refine dr ?_); rw [hr]; refine zaa rfl ?_ rfl; simp [zar,plR,rngK,twB,zaf,zei,gg0])
  cases gg1 : inB tn 0 (t - 1)
  ·simp [GEntry.cells,w1,gg0,gg1]
   ((repeat refine dr ?_); rw [hr]; refine zaa rfl ?_ rfl; simp [zar,plR,rngK,twB,zaf,gg1])
  cases gg2 : inB ce (-1) (c - 1)
  ·simp [GEntry.cells,w1,w2,gg0,gg1,gg2]
   ((repeat refine dr ?_); rw [hr]; refine zaa rfl ?_ rfl; simp [zar,plR,rngK,twB,zaf,gg1,gg2])
  by_cases gg3 : ¬ (ot = -1)
  ·simp [GEntry.cells,w1,w2,gg0,gg1,gg2,gg3]
   ((repeat refine dr ?_); rw [hr]; refine zaa rfl ?_ rfl; simp [zar,plR,rngK,twB,zaf,gg1,gg2,gg3])
  replace gg3 : ot = -1:=Classical.byContradiction gg3
  simp [GEntry.cells,w1,w2,gg0,gg1,gg2,gg3]
  ((repeat refine dr ?_); rw [hr]; refine zaa rfl ?_ rfl; simp [zar,plR,rngK,twB,zaf,gg1,gg2,gg3])
 ·clear h1
  by_cases gg0 : (tn = -1)
  ·simp [GEntry.cells,gg0]
   ((repeat refine dr ?_); rw [hr]; refine zaa rfl ?_ rfl; simp [zar,plR,rngK,twB,zaf,zei,gg0])
  cases gg1 : inB tn 0 (t - 1)
  ·simp [GEntry.cells,w1,gg0,gg1]
   ((repeat refine dr ?_); rw [hr]; refine zaa rfl ?_ rfl; simp [zar,plR,rngK,twB,zaf,gg1])
  cases gg2 : inB ce 0 (c - 1)
  ·simp [GEntry.cells,w1,w2,gg0,gg1,gg2]
   ((repeat refine dr ?_); rw [hr]; refine zaa rfl ?_ rfl; simp [zar,plR,rngK,twB,zaf,gg1,gg2])
  by_cases gg3 : ¬ (ot = -1)
  ·simp [GEntry.cells,w1,w2,gg0,gg1,gg2,gg3]
   ((repeat refine dr ?_); rw [hr]; refine zaa rfl ?_ rfl; simp [zar,plR,rngK,twB,zaf,gg1,gg2,gg3])
  replace gg3 : ot = -1:=Classical.byContradiction gg3
  simp [GEntry.cells,w1,w2,gg0,gg1,gg2,gg3]
  ((repeat refine dr ?_); rw [hr]; refine zaa rfl ?_ rfl; simp [zar,plR,rngK,twB,zaf,gg1,gg2,gg3])
 ·clear h1
  by_cases gg0 : (tn = -1)
  ·simp [GEntry.cells,gg0]
   ((repeat refine dr ?_); rw [hr]; refine zaa rfl ?_ rfl; simp [zar,plR,rngK,twB,zaf,zei,gg0])
  cases gg1 : inB tn 0 (t - 1)
  ·simp [GEntry.cells,w1,gg0,gg1]
   ((repeat refine dr ?_); rw [hr]; refine zaa rfl ?_ rfl; simp [zar,plR,rngK,twB,zaf,gg1])
  cases gg2 : inB ce 0 (c - 1)
  ·simp [GEntry.cells,w1,w2,gg0,gg1,gg2]
   ((repeat refine dr ?_); rw [hr]; refine zaa rfl ?_ rfl; simp [zar,plR,rngK,twB,zaf,gg1,gg2])
  by_cases gg3 : ¬ (ot = -1)
  ·simp [GEntry.cells,w1,w2,gg0,gg1,gg2,gg3]
   ((repeat refine dr ?_); rw [hr]; refine zaa rfl ?_ rfl; simp [zar,plR,rngK,twB,zaf,gg1,gg2,gg3])
  replace gg3 : ot = -1:=Classical.byContradiction gg3
  simp [GEntry.cells,w1,w2,gg0,gg1,gg2,gg3]
  ((repeat refine dr ?_); rw [hr]; refine zaa rfl ?_ rfl; simp [zar,plR,rngK,twB,zaf,gg1,gg2,gg3])
 ·clear h1
  by_cases gg0 : (tn = -1)
  ·simp [GEntry.cells,gg0]
   ((repeat refine dr ?_); rw [hr]; refine zaa rfl ?_ rfl; simp [zar,plR,rngK,twB,zaf,zei,gg0])
  cases gg1 : inB tn 0 (t - 1)
  ·simp [GEntry.cells,w1,gg0,gg1]
   ((repeat refine dr ?_); rw [hr]; refine zaa rfl ?_ rfl; simp [zar,plR,rngK,twB,zaf,gg1])
  by_cases gg2 : ¬ (ce = -1)
  ·simp [GEntry.cells,w1,gg0,gg1,gg2]
   ((repeat refine dr ?_); rw [hr]; refine zaa rfl ?_ rfl; simp [zar,plR,rngK,twB,zaf,gg1,gg2])
  replace gg2 : ce = -1:=Classical.byContradiction gg2
  by_cases gg3 : ¬ (ot = -1)
  ·simp [GEntry.cells,w1,gg0,gg1,gg2,gg3]
   ((repeat refine dr ?_); rw [hr]; refine zaa rfl ?_ rfl; simp [zar,plR,rngK,twB,zaf,gg1,gg2,gg3])
  replace gg3 : ot = -1:=Classical.byContradiction gg3
  simp [GEntry.cells,w1,gg0,gg1,gg2,gg3]
  ((repeat refine dr ?_); rw [hr]; refine zaa rfl ?_ rfl; simp [zar,plR,rngK,twB,zaf,gg1,gg2,gg3])
 ·clear h1
  by_cases gg0 : (tn = -1)
  ·simp [GEntry.cells,gg0]
   ((repeat refine dr ?_); rw [hr]; refine zaa rfl ?_ rfl; simp [zar,plR,rngK,twB,zaf,zei,gg0])
  cases gg1 : inB tn 0 (t - 1)
  ·simp [GEntry.cells,w1,gg0,gg1]
   ((repeat refine dr ?_); rw [hr]; refine zaa rfl ?_ rfl; simp [zar,plR,rngK,twB,zaf,gg1])
  by_cases gg2 : ¬ (ce = -1)
  ·simp [GEntry.cells,w1,gg0,gg1,gg2]
   ((repeat refine dr ?_); rw [hr]; refine zaa rfl ?_ rfl; simp [zar,plR,rngK,twB,zaf,gg1,gg2])
  replace gg2 : ce = -1:=Classical.byContradiction gg2
  by_cases gg3 : ¬ (ot = -1)
  ·simp [GEntry.cells,w1,gg0,gg1,gg2,gg3]
   ((repeat refine dr ?_); rw [hr]; refine zaa rfl ?_ rfl; simp [zar,plR,rngK,twB,zaf,gg1,gg2,gg3])
  replace gg3 : ot = -1:=Classical.byContradiction gg3
  simp [GEntry.cells,w1,gg0,gg1,gg2,gg3]
  ((repeat refine dr ?_); rw [hr]; refine zaa rfl ?_ rfl; simp [zar,plR,rngK,twB,zaf,gg1,gg2,gg3])
 ·clear h1
  by_cases gg0 : ¬ (tn = -1)
  ·simp [GEntry.cells,gg0]
   ((repeat refine dr ?_); rw [hr]; refine zaa rfl ?_ rfl; simp [zar,plR,rngK,twB,zaf,gg0])
  replace gg0 : tn = -1:=Classical.byContradiction gg0
  cases gg1 : inB ce 0 (c - 1)
  ·simp [GEntry.cells,w2,gg0,gg1]
   ((repeat refine dr ?_); rw [hr]; refine zaa rfl ?_ rfl; simp [zar,plR,rngK,twB,zaf,gg0,gg1])
  by_cases gg2 : ¬ (ot = -1)
  ·simp [GEntry.cells,w2,gg0,gg1,gg2]
   ((repeat refine dr ?_); rw [hr]; refine zaa rfl ?_ rfl; simp [zar,plR,rngK,twB,zaf,gg0,gg1,gg2])
  replace gg2 : ot = -1:=Classical.byContradiction gg2
  simp [GEntry.cells,w2,gg0,gg1,gg2]
  ((repeat refine dr ?_); rw [hr]; refine zaa rfl ?_ rfl; simp [zar,plR,rngK,twB,zaf,gg0,gg1,gg2])
 ·clear h1
  by_cases gg0 : ¬ (tn = -1)
  ·simp [GEntry.cells,gg0]
   ((repeat refine dr ?_); rw [hr]; refine zaa rfl ?_ rfl; simp [zar,plR,rngK,twB,zaf,gg0])
  replace gg0 : tn = -1:=Classical.byContradiction gg0
  cases gg1 : inB ce 0 (c - 1)
  ·simp [GEntry.cells,w2,gg0,gg1]
   ((repeat refine dr ?_); rw [hr]; refine zaa rfl ?_ rfl; simp [zar,plR,rngK,twB,zaf,gg0,gg1])
  by_cases gg2 : ¬ (ot = -1)
  ·simp [GEntry.cells,w2,gg0,gg1,gg2]
   ((repeat refine dr ?_); rw [hr]; refine zaa rfl ?_ rfl; simp [zar,plR,rngK,twB,zaf,gg0,gg1,gg2])
  replace gg2 : ot = -1:=Classical.byContradiction gg2
  simp [GEntry.cells,w2,gg0,gg1,gg2]
  ((repeat refine dr ?_); rw [hr]; refine zaa rfl ?_ rfl; simp [zar,plR,rngK,twB,zaf,gg0,gg1,gg2])
 ·clear h1
  by_cases gg0 : ¬ (tn = -1)
  ·simp [GEntry.cells,gg0]
   ((repeat refine dr ?_); rw [hr]; refine zaa rfl ?_ rfl; simp [zar,plR,rngK,twB,zaf,gg0])
  replace gg0 : tn = -1:=Classical.byContradiction gg0
  cases gg1 : inB ce 0 (c - 1)
  ·simp [GEntry.cells,w2,gg0,gg1]
   ((repeat refine dr ?_); rw [hr]; refine zaa rfl ?_ rfl; simp [zar,plR,rngK,twB,zaf,gg0,gg1])
  by_cases gg2 : ¬ (ot = -1)
  ·simp [GEntry.cells,w2,gg0,gg1,gg2]
   ((repeat refine dr ?_); rw [hr]; refine zaa rfl ?_ rfl; simp [zar,plR,rngK,twB,zaf,gg0,gg1,gg2])
  replace gg2 : ot = -1:=Classical.byContradiction gg2
  simp [GEntry.cells,w2,gg0,gg1,gg2]
  ((repeat refine dr ?_); rw [hr]; refine zaa rfl ?_ rfl; simp [zar,plR,rngK,twB,zaf,gg0,gg1,gg2])
 ·clear h1
  by_cases gg0 : ¬ (tn = -1)
  ·simp [GEntry.cells,gg0]
   ((repeat refine dr ?_); rw [hr]; refine zaa rfl ?_ rfl; simp [zar,plR,rngK,twB,zaf,gg0])
  replace gg0 : tn = -1:=Classical.byContradiction gg0
  by_cases gg1 : ¬ (ce = -1)
  ·simp [GEntry.cells,gg0,gg1]
   ((repeat refine dr ?_); rw [hr]; refine zaa rfl ?_ rfl; simp [zar,plR,rngK,twB,zaf,gg0,gg1])
  replace gg1 : ce = -1:=Classical.byContradiction gg1
  by_cases gg2 : ¬ (ot = -1)
  ·simp [GEntry.cells,gg0,gg1,gg2]
   ((repeat refine dr ?_); rw [hr]; refine zaa rfl ?_ rfl; simp [zar,plR,rngK,twB,zaf,gg0,gg1,gg2])
  replace gg2 : ot = -1:=Classical.byContradiction gg2
  simp [GEntry.cells,gg0,gg1,gg2]
  ((repeat refine dr ?_); rw [hr]; refine zaa rfl ?_ rfl; simp [zar,plR,rngK,twB,zaf,gg0,gg1,gg2])
 ·clear h1
  by_cases gg0 : ¬ (tn = -1)
  ·simp [GEntry.cells,gg0]
   ((repeat refine dr ?_); rw [hr]; refine zaa rfl ?_ rfl; simp [zar,plR,rngK,twB,zaf,gg0])
  replace gg0 : tn = -1:=Classical.byContradiction gg0
  by_cases gg1 : ¬ (ce = -1)
  ·simp [GEntry.cells,gg0,gg1]
   ((repeat refine dr ?_); rw [hr]; refine zaa rfl ?_ rfl; simp [zar,plR,rngK,twB,zaf,gg0,gg1])
  replace gg1 : ce = -1:=Classical.byContradiction gg1
  cases gg2 : inB ot 0 (g - 1)
  ·simp [GEntry.cells,w3,gg0,gg1,gg2]
   ((repeat refine dr ?_); rw [hr]; refine zaa rfl ?_ rfl; simp [zar,plR,rngK,twB,zaf,gg0,gg1,gg2])
  simp [GEntry.cells,w3,gg0,gg1,gg2]
  ((repeat refine dr ?_); rw [hr]; refine zaa rfl ?_ rfl; simp [zar,plR,rngK,twB,zaf,gg0,gg1,gg2])
 ·clear h1
  by_cases gg0 : ¬ (tn = -1)
  ·simp [GEntry.cells,gg0]
   ((repeat refine dr ?_); rw [hr]; refine zaa rfl ?_ rfl; simp [zar,plR,rngK,twB,zaf,gg0])
  replace gg0 : tn = -1:=Classical.byContradiction gg0
  by_cases gg1 : ¬ (ce = -1)
  ·simp [GEntry.cells,gg0,gg1]
   ((repeat refine dr ?_); rw [hr]; refine zaa rfl ?_ rfl; simp [zar,plR,rngK,twB,zaf,gg0,gg1])
  replace gg1 : ce = -1:=Classical.byContradiction gg1
  by_cases gg2 : ¬ (ot = -1)
  ·simp [GEntry.cells,gg0,gg1,gg2]
   ((repeat refine dr ?_); rw [hr]; refine zaa rfl ?_ rfl; simp [zar,plR,rngK,twB,zaf,gg0,gg1,gg2])
  replace gg2 : ot = -1:=Classical.byContradiction gg2
  simp [GEntry.cells,gg0,gg1,gg2]
  ((repeat refine dr ?_); rw [hr]; refine zaa rfl ?_ rfl; simp [zar,plR,rngK,twB,zaf,gg0,gg1,gg2])
 ·clear h1
  by_cases gg0 : ¬ (tn = -1)
  ·simp [GEntry.cells,gg0]
   ((repeat refine dr ?_); rw [hr]; refine zaa rfl ?_ rfl; simp [zar,plR,rngK,twB,zaf,gg0])
  replace gg0 : tn = -1:=Classical.byContradiction gg0
  by_cases gg1 : ¬ (ce = -1)
  ·simp [GEntry.cells,gg0,gg1]
   ((repeat refine dr ?_); rw [hr]; refine zaa rfl ?_ rfl; simp [zar,plR,rngK,twB,zaf,gg0,gg1])
  replace gg1 : ce = -1:=Classical.byContradiction gg1
  by_cases gg2 : ¬ (ot = -1)
  ·simp [GEntry.cells,gg0,gg1,gg2]
   ((repeat refine dr ?_); rw [hr]; refine zaa rfl ?_ rfl; simp [zar,plR,rngK,twB,zaf,gg0,gg1,gg2])
  replace gg2 : ot = -1:=Classical.byContradiction gg2
  simp [GEntry.cells,gg0,gg1,gg2]
  ((repeat refine dr ?_); rw [hr]; refine zaa rfl ?_ rfl; simp [zar,plR,rngK,twB,zaf,gg0,gg1,gg2])
 ·clear h1
  by_cases gg0 : ¬ (tn = -1)
  ·simp [GEntry.cells,gg0]
   ((repeat refine dr ?_); rw [hr]; refine zaa rfl ?_ rfl; simp [zar,plR,rngK,twB,zaf,gg0])
  replace gg0 : tn = -1:=Classical.byContradiction gg0
  by_cases gg1 : ¬ (ce = -1)
  ·simp [GEntry.cells,gg0,gg1]
   ((repeat refine dr ?_); rw [hr]; refine zaa rfl ?_ rfl; simp [zar,plR,rngK,twB,zaf,gg0,gg1])
  replace gg1 : ce = -1:=Classical.byContradiction gg1
  by_cases gg2 : ¬ (ot = -1)
  ·simp [GEntry.cells,gg0,gg1,gg2]
   ((repeat refine dr ?_); rw [hr]; refine zaa rfl ?_ rfl; simp [zar,plR,rngK,twB,zaf,gg0,gg1,gg2])
  replace gg2 : ot = -1:=Classical.byContradiction gg2
  simp [GEntry.cells,gg0,gg1,gg2]
  ((repeat refine dr ?_); rw [hr]; refine zaa rfl ?_ rfl; simp [zar,plR,rngK,twB,zaf,gg0,gg1,gg2])
noncomputable def zgV:=fam (fun i : GEntry × Int=>[zaB i.1,.int .i64 i.2]) (fun _=>[]) (fun i=>(1 ≤ i.1.Kind ∧ i.1.Kind ≤ 16) ∧ (0 ≤ i.2 ∧ i.2 ≤ 9223372036854775807)) (fun i=>⟨.bool (zap i.1 i.2),[]⟩)
@[simp] theorem numbersSp_eq {e : GEntry} {v : Int} (h1 : 1 ≤ e.Kind ∧ e.Kind ≤ 16) (h2 : 0 ≤ v ∧ v ≤ 9223372036854775807) : zgV ([zaB e,.int .i64 v]) ([]) = some (⟨.bool (zap e v),[]⟩) :=
 zag (by rintro ⟨a0,a1⟩ ⟨b0,b1⟩ h h' <;> simp at h h' <;> simp_all) (e,v) ⟨h1,h2⟩
set_option maxHeartbeats 40000000 in
theorem znU : Lift.Spec Tryz.prog 163 zgV:=by
 refine zaj (C:=CE6) zac zx9 follows Tryz.func163 (by kernel_rfl) rfl (by kernel_rfl) rfl ?_
 rintro ⟨e,v⟩ ⟨h1,h2⟩
 try simp only at h1 h2
 refine ⟨by simp,?_⟩
 intro r hr
 have w1 : IntKind.i64.wrap (v - 1) = v - 1:=w64
 obtain ⟨kd,tk,tn,ce,ot,ep,fr,un,n⟩:=e
 simp only at h1
 rcases kinds h1 with rfl | rfl | rfl | rfl | rfl | rfl | rfl | rfl | rfl | rfl | rfl | rfl | rfl | rfl | rfl | rfl
 ·clear h1
  by_cases gg0 : ¬ (ep = 0)
  ·simp [GEntry.cells,gg0]
   ((repeat refine dr ?_); rw [hr]; refine zaa rfl ?_ rfl; simp [zap,nuR,rngK,zaf,gg0])
  replace gg0 : ep = 0:=Classical.byContradiction gg0
  by_cases gg1 : ¬ (fr = 0)
  ·simp [GEntry.cells,gg0,gg1]
   ((repeat refine dr ?_); rw [hr]; refine zaa rfl ?_ rfl; simp [zap,nuR,rngK,zaf,gg0,gg1])
  replace gg1 : fr = 0:=Classical.byContradiction gg1
  by_cases gg2 : ¬ (un = 0)
  ·simp [GEntry.cells,gg0,gg1,gg2]
   ((repeat refine dr ?_); rw [hr]; refine zaa rfl ?_ rfl; simp [zap,nuR,rngK,zaf,gg0,gg1,gg2])
  replace gg2 : un = 0:=Classical.byContradiction gg2
  simp [GEntry.cells,gg0,gg1,gg2]
  ((repeat refine dr ?_); rw [hr]; refine zaa rfl ?_ rfl; simp [zap,nuR,rngK,zaf,gg0,gg1,gg2])
 ·clear h1
  cases gg0 : inB ep 1 1048576
  ·simp [GEntry.cells,gg0]
   ((repeat refine dr ?_); rw [hr]; refine zaa rfl ?_ rfl; simp [zap,nuR,rngK,gg0])
  cases gg1 : inB fr 0 1073741824
  ·simp [GEntry.cells,gg0,gg1]
   ((repeat refine dr ?_); rw [hr]; refine zaa rfl ?_ rfl; simp [zap,nuR,rngK,gg0,gg1])
  cases gg2 : inB un 0 1073741824
  ·simp [GEntry.cells,gg0,gg1,gg2]
   ((repeat refine dr ?_); rw [hr]; refine zaa rfl ?_ rfl; simp [zap,nuR,rngK,gg0,gg1,gg2])
  simp [GEntry.cells,w1,gg0,gg1,gg2]
  ((repeat refine dr ?_); rw [hr]; refine zaa rfl ?_ rfl; simp [zap,nuR,rngK,gg0,gg1,gg2])
 ·clear h1
  cases gg0 : inB ep 1 1048576
  ·simp [GEntry.cells,gg0]
   ((repeat refine dr ?_); rw [hr]; refine zaa rfl ?_ rfl; simp [zap,nuR,rngK,zaf,gg0])
  by_cases gg1 : ¬ (fr = 0)
  ·simp [GEntry.cells,gg0,gg1]
   ((repeat refine dr ?_); rw [hr]; refine zaa rfl ?_ rfl; simp [zap,nuR,rngK,zaf,gg0,gg1])
  replace gg1 : fr = 0:=Classical.byContradiction gg1
  by_cases gg2 : ¬ (un = 0)
  ·simp [GEntry.cells,gg0,gg1,gg2]
   ((repeat refine dr ?_); rw [hr]; refine zaa rfl ?_ rfl; simp [zap,nuR,rngK,zaf,gg0,gg1,gg2])
  replace gg2 : un = 0:=Classical.byContradiction gg2
  simp [GEntry.cells,gg0,gg1,gg2]
  ((repeat refine dr ?_); rw [hr]; refine zaa rfl ?_ rfl; simp [zap,nuR,rngK,zaf,gg0,gg1,gg2])
 ·clear h1
  by_cases gg0 : ¬ (ep = 0)
  ·simp [GEntry.cells,gg0]
   ((repeat refine dr ?_); rw [hr]; refine zaa rfl ?_ rfl; simp [zap,nuR,rngK,zaf,gg0])
  replace gg0 : ep = 0:=Classical.byContradiction gg0
  by_cases gg1 : ¬ (fr = 0)
  ·simp [GEntry.cells,gg0,gg1]
   ((repeat refine dr ?_); rw [hr]; refine zaa rfl ?_ rfl; simp [zap,nuR,rngK,zaf,gg0,gg1])
  replace gg1 : fr = 0:=Classical.byContradiction gg1
  by_cases gg2 : ¬ (un = 0)
  ·simp [GEntry.cells,gg0,gg1,gg2]
   ((repeat refine dr ?_); rw [hr]; refine zaa rfl ?_ rfl; simp [zap,nuR,rngK,zaf,gg0,gg1,gg2])
  replace gg2 : un = 0:=Classical.byContradiction gg2
  simp [GEntry.cells,gg0,gg1,gg2]
  ((repeat refine dr ?_); rw [hr]; refine zaa rfl ?_ rfl; simp [zap,nuR,rngK,zaf,gg0,gg1,gg2])
 ·clear h1
  by_cases gg0 : ¬ (ep = 0)
  ·simp [GEntry.cells,gg0]
   ((repeat refine dr ?_); rw [hr]; refine zaa rfl ?_ rfl; simp [zap,nuR,rngK,zaf,gg0])
  replace gg0 : ep = 0:=Classical.byContradiction gg0
  by_cases gg1 : ¬ (fr = 0)
  ·simp [GEntry.cells,gg0,gg1]
   ((repeat refine dr ?_); rw [hr]; refine zaa rfl ?_ rfl; simp [zap,nuR,rngK,zaf,gg0,gg1])
  replace gg1 : fr = 0:=Classical.byContradiction gg1
  by_cases gg2 : ¬ (un = 0)
  ·simp [GEntry.cells,gg0,gg1,gg2]
   ((repeat refine dr ?_); rw [hr]; refine zaa rfl ?_ rfl; simp [zap,nuR,rngK,zaf,gg0,gg1,gg2])
  replace gg2 : un = 0:=Classical.byContradiction gg2
  simp [GEntry.cells,gg0,gg1,gg2]
  ((repeat refine dr ?_); rw [hr]; refine zaa rfl ?_ rfl; simp [zap,nuR,rngK,zaf,gg0,gg1,gg2])
 ·clear h1
  by_cases gg0 : ¬ (ep = 0)
  ·simp [GEntry.cells,gg0]
   ((repeat refine dr ?_); rw [hr]; refine zaa rfl ?_ rfl; simp [zap,nuR,rngK,zaf,gg0])
  replace gg0 : ep = 0:=Classical.byContradiction gg0
  by_cases gg1 : ¬ (fr = 0)
  ·simp [GEntry.cells,gg0,gg1]
   ((repeat refine dr ?_); rw [hr]; refine zaa rfl ?_ rfl; simp [zap,nuR,rngK,zaf,gg0,gg1])
  replace gg1 : fr = 0:=Classical.byContradiction gg1
  by_cases gg2 : ¬ (un = 0)
  ·simp [GEntry.cells,gg0,gg1,gg2]
   ((repeat refine dr ?_); rw [hr]; refine zaa rfl ?_ rfl; simp [zap,nuR,rngK,zaf,gg0,gg1,gg2])
  replace gg2 : un = 0:=Classical.byContradiction gg2
  simp [GEntry.cells,gg0,gg1,gg2]
  ((repeat refine dr ?_); rw [hr]; refine zaa rfl ?_ rfl; simp [zap,nuR,rngK,zaf,gg0,gg1,gg2])
 ·clear h1
  by_cases gg0 : ¬ (ep = 0)
  ·simp [GEntry.cells,gg0]
   ((repeat refine dr ?_); rw [hr]; refine zaa rfl ?_ rfl; simp [zap,nuR,rngK,zaf,gg0])
  replace gg0 : ep = 0:=Classical.byContradiction gg0
  by_cases gg1 : ¬ (fr = 0)
  ·simp [GEntry.cells,gg0,gg1]
   ((repeat refine dr ?_); rw [hr]; refine zaa rfl ?_ rfl; simp [zap,nuR,rngK,zaf,gg0,gg1])
  replace gg1 : fr = 0:=Classical.byContradiction gg1
  by_cases gg2 : ¬ (un = 0)
  ·simp [GEntry.cells,gg0,gg1,gg2]
   ((repeat refine dr ?_); rw [hr]; refine zaa rfl ?_ rfl; simp [zap,nuR,rngK,zaf,gg0,gg1,gg2])
  replace gg2 : un = 0:=Classical.byContradiction gg2
  simp [GEntry.cells,gg0,gg1,gg2]
  ((repeat refine dr ?_); rw [hr]; refine zaa rfl ?_ rfl; simp [zap,nuR,rngK,zaf,gg0,gg1,gg2])
 ·clear h1
  by_cases gg0 : ¬ (ep = 0)
  ·simp [GEntry.cells,gg0]
   ((repeat refine dr ?_); rw [hr]; refine zaa rfl ?_ rfl; simp [zap,nuR,rngK,zaf,gg0])
  replace gg0 : ep = 0:=Classical.byContradiction gg0
  by_cases gg1 : ¬ (fr = 0)
  ·simp [GEntry.cells,gg0,gg1]
   ((repeat refine dr ?_); rw [hr]; refine zaa rfl ?_ rfl; simp [zap,nuR,rngK,zaf,gg0,gg1])
  replace gg1 : fr = 0:=Classical.byContradiction gg1
  by_cases gg2 : ¬ (un = 0)
  ·simp [GEntry.cells,gg0,gg1,gg2]
   ((repeat refine dr ?_); rw [hr]; refine zaa rfl ?_ rfl; simp [zap,nuR,rngK,zaf,gg0,gg1,gg2])
  replace gg2 : un = 0:=Classical.byContradiction gg2
  simp [GEntry.cells,gg0,gg1,gg2]
  ((repeat refine dr ?_); rw [hr]; refine zaa rfl ?_ rfl; simp [zap,nuR,rngK,zaf,gg0,gg1,gg2])
 ·clear h1
  by_cases gg0 : ¬ (ep = 0)
  ·simp [GEntry.cells,gg0]
   ((repeat refine dr ?_); rw [hr]; refine zaa rfl ?_ rfl; simp [zap,nuR,rngK,zaf,gg0])
  replace gg0 : ep = 0:=Classical.byContradiction gg0
  by_cases gg1 : ¬ (fr = 0)
  ·simp [GEntry.cells,gg0,gg1]
   ((repeat refine dr ?_); rw [hr]; refine zaa rfl ?_ rfl; simp [zap,nuR,rngK,zaf,gg0,gg1])
  replace gg1 : fr = 0:=Classical.byContradiction gg1
  by_cases gg2 : ¬ (un = 0)
  ·simp [GEntry.cells,gg0,gg1,gg2]
   ((repeat refine dr ?_); rw [hr]; refine zaa rfl ?_ rfl; simp [zap,nuR,rngK,zaf,gg0,gg1,gg2])
  replace gg2 : un = 0:=Classical.byContradiction gg2
  simp [GEntry.cells,gg0,gg1,gg2]
  ((repeat refine dr ?_); rw [hr]; refine zaa rfl ?_ rfl; simp [zap,nuR,rngK,zaf,gg0,gg1,gg2])
 ·clear h1
  by_cases gg0 : ¬ (ep = 0)
  ·simp [GEntry.cells,gg0]
   ((repeat refine dr ?_); rw [hr]; refine zaa rfl ?_ rfl; simp [zap,nuR,rngK,zaf,gg0])
  replace gg0 : ep = 0:=Classical.byContradiction gg0
  by_cases gg1 : ¬ (fr = 0)
  ·simp [GEntry.cells,gg0,gg1]
   ((repeat refine dr ?_); rw [hr]; refine zaa rfl ?_ rfl; simp [zap,nuR,rngK,zaf,gg0,gg1])
  replace gg1 : fr = 0:=Classical.byContradiction gg1
  by_cases gg2 : ¬ (un = 0)
  ·simp [GEntry.cells,gg0,gg1,gg2]
   ((repeat refine dr ?_); rw [hr]; refine zaa rfl ?_ rfl; simp [zap,nuR,rngK,zaf,gg0,gg1,gg2])
  replace gg2 : un = 0:=Classical.byContradiction gg2
  simp [GEntry.cells,w1,gg0,gg1,gg2]
  ((repeat refine dr ?_); rw [hr]; refine zaa rfl ?_ rfl; simp [zap,nuR,rngK,zaf,gg0,gg1,gg2])
 ·clear h1
  by_cases gg0 : ¬ (ep = 0)
  ·simp [GEntry.cells,gg0]
   ((repeat refine dr ?_); rw [hr]; refine zaa rfl ?_ rfl; simp [zap,nuR,rngK,zaf,gg0])
  replace gg0 : ep = 0:=Classical.byContradiction gg0
  by_cases gg1 : ¬ (fr = 0)
  ·simp [GEntry.cells,gg0,gg1]
   ((repeat refine dr ?_); rw [hr]; refine zaa rfl ?_ rfl; simp [zap,nuR,rngK,zaf,gg0,gg1])
  replace gg1 : fr = 0:=Classical.byContradiction gg1
  by_cases gg2 : ¬ (un = 0)
  ·simp [GEntry.cells,gg0,gg1,gg2]
   ((repeat refine dr ?_); rw [hr]; refine zaa rfl ?_ rfl; simp [zap,nuR,rngK,zaf,gg0,gg1,gg2])
  replace gg2 : un = 0:=Classical.byContradiction gg2
  simp [GEntry.cells,w1,gg0,gg1,gg2]
  ((repeat refine dr ?_); rw [hr]; refine zaa rfl ?_ rfl; simp [zap,nuR,rngK,zaf,gg0,gg1,gg2])
 ·clear h1
  by_cases gg0 : ¬ (ep = 0)
  ·simp [GEntry.cells,gg0]
   ((repeat refine dr ?_); rw [hr]; refine zaa rfl ?_ rfl; simp [zap,nuR,rngK,zaf,gg0])
  replace gg0 : ep = 0:=Classical.byContradiction gg0
  by_cases gg1 : ¬ (fr = 0)
  ·simp [GEntry.cells,gg0,gg1]
   ((repeat refine dr ?_); rw [hr]; refine zaa rfl ?_ rfl; simp [zap,nuR,rngK,zaf,gg0,gg1])
  replace gg1 : fr = 0:=Classical.byContradiction gg1
  by_cases gg2 : ¬ (un = 0)
  ·simp [GEntry.cells,gg0,gg1,gg2]
   ((repeat refine dr ?_); rw [hr]; refine zaa rfl ?_ rfl; simp [zap,nuR,rngK,zaf,gg0,gg1,gg2])
  replace gg2 : un = 0:=Classical.byContradiction gg2
  simp [GEntry.cells,w1,gg0,gg1,gg2]
  ((repeat refine dr ?_); rw [hr]; refine zaa rfl ?_ rfl; simp [zap,nuR,rngK,zaf,gg0,gg1,gg2])
 ·clear h1
  by_cases gg0 : ¬ (ep = 0)
  ·simp [GEntry.cells,gg0]
   ((repeat refine dr ?_); rw [hr]; refine zaa rfl ?_ rfl; simp [zap,nuR,rngK,zaf,gg0])
  replace gg0 : ep = 0:=Classical.byContradiction gg0
  by_cases gg1 : ¬ (fr = 0)
  ·simp [GEntry.cells,gg0,gg1]
   ((repeat refine dr ?_); rw [hr]; refine zaa rfl ?_ rfl; simp [zap,nuR,rngK,zaf,gg0,gg1])
  replace gg1 : fr = 0:=Classical.byContradiction gg1
  by_cases gg2 : ¬ (un = 0)
  ·simp [GEntry.cells,gg0,gg1,gg2]
   ((repeat refine dr ?_); rw [hr]; refine zaa rfl ?_ rfl; simp [zap,nuR,rngK,zaf,gg0,gg1,gg2])
  replace gg2 : un = 0:=Classical.byContradiction gg2
  simp [GEntry.cells,gg0,gg1,gg2]
  ((repeat refine dr ?_); rw [hr]; refine zaa rfl ?_ rfl; simp [zap,nuR,rngK,zaf,gg0,gg1,gg2])
 ·clear h1
  by_cases gg0 : ¬ (ep = 0)
  ·simp [GEntry.cells,gg0]
   ((repeat refine dr ?_); rw [hr]; refine zaa rfl ?_ rfl; simp [zap,nuR,rngK,zaf,gg0])
  replace gg0 : ep = 0:=Classical.byContradiction gg0
  by_cases gg1 : ¬ (fr = 0)
  ·simp [GEntry.cells,gg0,gg1]
   ((repeat refine dr ?_); rw [hr]; refine zaa rfl ?_ rfl; simp [zap,nuR,rngK,zaf,gg0,gg1])
  replace gg1 : fr = 0:=Classical.byContradiction gg1
  by_cases gg2 : ¬ (un = 0)
  ·simp [GEntry.cells,gg0,gg1,gg2]
   ((repeat refine dr ?_); rw [hr]; refine zaa rfl ?_ rfl; simp [zap,nuR,rngK,zaf,gg0,gg1,gg2])
  replace gg2 : un = 0:=Classical.byContradiction gg2
  simp [GEntry.cells,gg0,gg1,gg2]
  ((repeat refine dr ?_); rw [hr]; refine zaa rfl ?_ rfl; simp [zap,nuR,rngK,zaf,gg0,gg1,gg2])
 ·clear h1
  by_cases gg0 : ¬ (ep = 0)
  ·simp [GEntry.cells,gg0]
   ((repeat refine dr ?_); rw [hr]; refine zaa rfl ?_ rfl; simp [zap,nuR,rngK,zaf,gg0])
  replace gg0 : ep = 0:=Classical.byContradiction gg0
  by_cases gg1 : ¬ (fr = 0)
  ·simp [GEntry.cells,gg0,gg1]
   ((repeat refine dr ?_); rw [hr]; refine zaa rfl ?_ rfl; simp [zap,nuR,rngK,zaf,gg0,gg1])
  replace gg1 : fr = 0:=Classical.byContradiction gg1
  by_cases gg2 : ¬ (un = 0)
  ·simp [GEntry.cells,gg0,gg1,gg2]
   ((repeat refine dr ?_); rw [hr]; refine zaa rfl ?_ rfl; simp [zap,nuR,rngK,zaf,gg0,gg1,gg2])
  replace gg2 : un = 0:=Classical.byContradiction gg2
  simp [GEntry.cells,gg0,gg1,gg2]
  ((repeat refine dr ?_); rw [hr]; refine zaa rfl ?_ rfl; simp [zap,nuR,rngK,zaf,gg0,gg1,gg2])
 ·clear h1
  by_cases gg0 : ¬ (ep = 0)
  ·simp [GEntry.cells,gg0]
   ((repeat refine dr ?_); rw [hr]; refine zaa rfl ?_ rfl; simp [zap,nuR,rngK,zaf,gg0])
  replace gg0 : ep = 0:=Classical.byContradiction gg0
  by_cases gg1 : ¬ (fr = 0)
  ·simp [GEntry.cells,gg0,gg1]
   ((repeat refine dr ?_); rw [hr]; refine zaa rfl ?_ rfl; simp [zap,nuR,rngK,zaf,gg0,gg1])
  replace gg1 : fr = 0:=Classical.byContradiction gg1
  by_cases gg2 : ¬ (un = 0)
  ·simp [GEntry.cells,gg0,gg1,gg2]
   ((repeat refine dr ?_); rw [hr]; refine zaa rfl ?_ rfl; simp [zap,nuR,rngK,zaf,gg0,gg1,gg2])
  replace gg2 : un = 0:=Classical.byContradiction gg2
  simp [GEntry.cells,gg0,gg1,gg2]
  ((repeat refine dr ?_); rw [hr]; refine zaa rfl ?_ rfl; simp [zap,nuR,rngK,zaf,gg0,gg1,gg2])
end Go.Proofs.YtcpdgbncekdicaaGreat

namespace Go.Proofs.YtcpdgbncekdicaaGreat
open Go.Lift
noncomputable def CE7:=mkC [(161,inSp),(162,ziC),(163,zgV)]
theorem zzP : zai Tryz.prog CE7:=zat (all_cons zqU (all_cons zpF (all_cons znU all_nil)))
@[simp] theorem CE7_1 : CE7 161 = inSp:=rfl
@[simp] theorem CE7_2 : CE7 162 = ziC:=rfl
@[simp] theorem CE7_3 : CE7 163 = zgV:=rfl
theorem zrY (t c r v : Int) (e : GEntry) (h : inB e.Kind 1 16 = true) : fitE t c r v e = (inB e.Tick 0 1073741824 && (zar e t c r && zap e v)):=by
 have hk:=kinds (zuC.1 h)
 obtain ⟨kd,tk,tn,ce,ot,ep,fr,un,n⟩:=e
 simp only at hk h
 simp only [fitE,zar,zap,h,inR,plR,nuR,Bool.true_and]
 rcases hk with rfl | rfl | rfl | rfl | rfl | rfl | rfl | rfl | rfl | rfl | rfl | rfl | rfl | rfl | rfl | rfl
 all_goals
  simp only [rngK,twB]
  simp
  generalize inB tk _ _ = b1
  cases b1 <;> simp
 all_goals
  rw [Bool.eq_iff_iff]
  simp
  grind
noncomputable def ziH:=fam (fun i : GEntry × Int × Int × Int × Int=>[zaB i.1,.int .i64 i.2.1,.int .i64 i.2.2.1,.int .i64 i.2.2.2.1,.int .i64 i.2.2.2.2]) (fun _=>[]) (fun i=>(0 ≤ i.2.1 ∧ i.2.1 ≤ 9223372036854775807) ∧ (0 ≤ i.2.2.1 ∧ i.2.2.1 ≤ 9223372036854775807) ∧ (0 ≤ i.2.2.2.1 ∧ i.2.2.2.1 ≤ 9223372036854775807) ∧ (0 ≤ i.2.2.2.2 ∧ i.2.2.2.2 ≤ 9223372036854775807)) (fun i=>⟨.bool (fitE i.2.1 i.2.2.1 i.2.2.2.1 i.2.2.2.2 i.1),[]⟩)
@[simp] theorem right6Sp_eq {e : GEntry} {t c g v : Int} (h1 : 0 ≤ t ∧ t ≤ 9223372036854775807) (h2 : 0 ≤ c ∧ c ≤ 9223372036854775807) (h3 : 0 ≤ g ∧ g ≤ 9223372036854775807) (h4 : 0 ≤ v ∧ v ≤ 9223372036854775807) : ziH ([zaB e,.int .i64 t,.int .i64 c,.int .i64 g,.int .i64 v]) ([]) = some (⟨.bool (fitE t c g v e),[]⟩) :=
 zag (by rintro ⟨a0,a1,a2,a3,a4⟩ ⟨b0,b1,b2,b3,b4⟩ h h' <;> simp at h h' <;> simp_all) (e,t,c,g,v) ⟨h1,h2,h3,h4⟩
set_option maxHeartbeats 40000000 in
theorem zpM : Lift.Spec Tryz.prog 141 ziH:=by
 refine zaj (C:=CE7) zac zzP follows Tryz.func141 (by kernel_rfl) rfl (by kernel_rfl) rfl ?_
 rintro ⟨e,t,c,g,v⟩ ⟨h1,h2,h3,h4⟩
 try simp only at h1 h2 h3 h4
 refine ⟨by simp,?_⟩
 intro r hr
 cases k0 : inB e.Kind 1 16
 ·simp [GEntry.cells,k0]
  ((repeat refine dr ?_); rw [hr]; refine zaa rfl ?_ rfl; simp [fitE,k0])
 have hk:=zuC.1 k0
 have hp:=zrY t c g v e k0
 rw [hp] at hr
 cases gg0 : inB e.Tick 0 1073741824
 ·simp [GEntry.cells,k0,gg0]
  ((repeat refine dr ?_); rw [hr]; refine zaa rfl ?_ rfl; simp [gg0])
 cases gg1 : zar e t c g
 ·simp [GEntry.cells,k0,hk,h1,h2,h3,gg0,gg1]
  ((repeat refine dr ?_); rw [hr]; refine zaa rfl ?_ rfl; simp [gg0,gg1])
 simp [GEntry.cells,k0,hk,h1,h2,h3,h4,gg0,gg1]
 ((repeat refine dr ?_); rw [hr]; refine zaa rfl ?_ rfl; simp [gg0,gg1])
noncomputable def CE8:=mkC [(141,ziH)]
theorem zzQ : zai Tryz.prog CE8:=zat (all_cons zpM all_nil)
@[simp] theorem CE8_1 : CE8 141 = ziH:=rfl
theorem zet : Lift.Spec Tryz.prog 120 zcz:=by
 refine zaj (C:=CE8) zac zzQ follows Tryz.func120 (by kernel_rfl) rfl (by kernel_rfl) rfl ?_
 rintro e _
 refine ⟨by simp,?_⟩
 intro r hr
 simp [GEntry.cells]
 ((repeat refine dr ?_); rw [hr]; refine zaa rfl ?_ rfl; simp [zbj])
end Go.Proofs.YtcpdgbncekdicaaGreat

namespace Go.Proofs.YtcpdgbncekdicaaGreat
open Go.Lift
end Go.Proofs.YtcpdgbncekdicaaGreat

namespace Go.Proofs.YtcpdgbncekdicaaGreat
open Go.Lift
def entL (e : GEntry) : List Int:=[e.Kind,e.Tick,e.Tenant,e.Cell,e.Other,e.Epoch,e.From,e.Until,e.N]
def entO (e : GEntry) : AObj:=⟨53,9,[GEntry.cells e],true,2,.rw⟩
noncomputable def zfm:=fam (fun _ : GEntry=>[V.ptr 0 0 0]) (fun i=>[entO i]) (fun _=>True) (fun i=>⟨.agg [.ptr 0 0 0,.ptr 0 0 1,.ptr 0 0 2,.ptr 0 0 3,.ptr 0 0 4,.ptr 0 0 5,.ptr 0 0 6,.ptr 0 0 7,.ptr 0 0 8],[entO i]⟩)
@[simp] theorem zjB {e : GEntry}  : zfm ([V.ptr 0 0 0]) ([entO e]) = some (⟨.agg [.ptr 0 0 0,.ptr 0 0 1,.ptr 0 0 2,.ptr 0 0 3,.ptr 0 0 4,.ptr 0 0 5,.ptr 0 0 6,.ptr 0 0 7,.ptr 0 0 8],[entO e]⟩) :=
 zag (A:=fun _ : GEntry=>[V.ptr 0 0 0]) (O:=fun i : GEntry=>[entO i]) (res:=fun i : GEntry=>⟨.agg [.ptr 0 0 0,.ptr 0 0 1,.ptr 0 0 2,.ptr 0 0 3,.ptr 0 0 4,.ptr 0 0 5,.ptr 0 0 6,.ptr 0 0 7,.ptr 0 0 8],[entO i]⟩) (fun i j _ h=>by simp [entO] at h; rw [GEntry.cells_inj h]) e trivial
theorem zjC : Lift.Spec Tryz.prog 198 zfm:=by
 refine zaj (C:=C0) zac C0_ok follows Tryz.func198 (by kernel_rfl) rfl (by kernel_rfl) rfl ?_
 rintro e _
 refine ⟨by simp,?_⟩
 intro r hr
 simp [entO,GEntry.cells]
 (repeat refine dr ?_)
 rw [hr]
 refine zbN [.inl 0] rfl ?_ ?_ (by simp) ?_ ?_ ?_ ?_ <;> simp [entO,GEntry.cells]
def encTo (ns : List Int) : List UInt8:=ns.flatMap fun n=>enc (code n)
theorem zrU (ns : List Int) (n : Int) : encTo (ns ++ [n]) = encTo ns ++ enc (code n):=by simp [encTo]
theorem zjw : ∀ {ns : List Int},(∀ n ∈ ns,In64 n) → (encTo ns).length ≤ 10 * ns.length
 | [],_=>by simp [encTo]
 | n :: ns,h=>by
  have h1:=zeP _ (zdd (h n (List.mem_cons_self ..)))
  have h2:=zjw (ns:=ns) (fun x hx=>h x (List.mem_cons_of_mem _ hx))
  have : encTo (n :: ns) = enc (code n) ++ encTo ns:=by simp [encTo]
  rw [this,List.length_append,List.length_cons]; omega
def zbs (e : GEntry) : List UInt8:=encTo (entL e)
theorem zjx {e : GEntry} (h : GEntry.ok e) : ∀ n ∈ entL e,In64 n:=by
 obtain ⟨h1,h2,h3,h4,h5,h6,h7,h8,h9⟩:=h
 simp only [entL,List.mem_cons,List.not_mem_nil,or_false]
 rintro n (rfl | rfl | rfl | rfl | rfl | rfl | rfl | rfl | rfl) <;> assumption
theorem zfa {e : GEntry} (h : GEntry.ok e) : (zbs e).length ≤ 90:=by
 have:=zjw (zjx h)
 exact this
noncomputable def CE9:=mkC [(198,zfm),(177,intSp),(109,intSp)]
theorem zya : zai Tryz.prog CE9:=zat (all_cons zjC (all_cons ziu (all_cons zes all_nil)))
@[simp] theorem CE9_1 : CE9 198 = zfm:=rfl
@[simp] theorem CE9_2 : CE9 177 = intSp:=rfl
@[simp] theorem CE9_3 : CE9 109 = intSp:=rfl
noncomputable def zih:=fam (fun i : GEntry=>[zaB i]) (fun _=>[]) (fun i=>(GEntry.ok i)) (fun i=>⟨.sl 2 1 (zae (zbs i)),[]⟩)
@[simp] theorem bytesESp_eq {e : GEntry} (h1 : GEntry.ok e) : zih ([zaB e]) ([]) = some (⟨.sl 2 1 (zae (zbs e)),[]⟩) :=
 zag (by intro a b h h' <;> simp at h h' <;> simp_all) e h1
def beSt (e : GEntry) (i : Nat × List UInt8) : St :=
 mkSt [(3,.own 1 0 i.2.length),(6,.agg [.ptr 0 0 0,.ptr 0 0 1,.ptr 0 0 2,.ptr 0 0 3,.ptr 0 0 4,.ptr 0 0 5,.ptr 0 0 6,.ptr 0 0 7,.ptr 0 0 8]),(7,.int .i64 i.1)] [(0,entO e),(1,rowOf i.2)] 2
theorem nine {i : Nat} (h : i < 9) : i = 0 ∨ i = 1 ∨ i = 2 ∨ i = 3 ∨ i = 4 ∨ i = 5 ∨ i = 6 ∨ i = 7 ∨ i = 8:=by omega
theorem zk2 {ns : List Int} {i : Nat} {x : Int} (hx : ns[i]? = some x) : encTo (ns.take (i + 1)) = encTo (ns.take i) ++ enc (code x):=by
 rw [List.take_add_one,hx]; exact zrU _ _
theorem zqF {e : GEntry} (h : GEntry.ok e) (i : Nat) : (encTo ((entL e).take i)).length ≤ 90:=by
 have h1:=zjw (ns:=(entL e).take i) (fun n hn=>zjx h n (List.mem_of_mem_take hn))
 have h2 : ((entL e).take i).length ≤ 9:=by rw [List.length_take]; simp [entL]; omega
 omega
set_option maxHeartbeats 40000000 in
theorem zoJ : Lift.Spec Tryz.prog 179 zih:=by
 refine zaj (C:=CE9) zac zya follows Tryz.func179 (by kernel_rfl) rfl (by kernel_rfl) rfl ?_
 rintro e h
 try simp only at h
 refine ⟨by simp,?_⟩
 intro r hr
 have hN:=zjB (e:=e)
 simp only [entO,GEntry.cells] at hN
 simp [GEntry.cells,hN]
 refine zal (beSt e) (fun i=>i.1 ≤ 9 ∧ i.2 = encTo ((entL e).take i.1)) (fun i=>9 - i.1) (0,[]) ?_ ⟨Nat.zero_le _,rfl⟩ ?_
 ·refine zks 3 99 (sz:=1) (rowOf []) (fun n=>if n = 1 then 99 else n) ?_ ?_ ?_ ?_ ?_ ?_ <;> simp [entO,GEntry.cells,rowOf]
 ·rintro ⟨i,acc⟩ ⟨hi,ha⟩
  simp only at hi ha
  by_cases hik : i < 9
  ·have hacc : acc.length ≤ 90:=by rw [ha]; exact zqF h i
   have q5 : (acc.length : Int) ≤ 140737488351222:=by omega
   obtain ⟨x,hx⟩ : ∃ x,(entL e)[i]? = some x:=⟨_,List.getElem?_eq_getElem (show i < (entL e).length from hik)⟩
   have hxi : In64 x:=zjx h x (List.mem_of_getElem? hx)
   have hstep:=zk2 hx
   rw [← ha] at hstep
   clear ha
   have h9:=nine hik
   rcases h9 with rfl | rfl | rfl | rfl | rfl | rfl | rfl | rfl | rfl
   all_goals
    simp [entL] at hx
    subst hx
    simp [beSt,entO,GEntry.cells,hxi,q5,rowOf]
    refine Again.mk (_,_) ⟨Nat.le_of_ble_eq_true rfl,hstep.symm⟩ (by simp) ?_
    refine zak [.inl 0,.inr 3] ?_ ?_ ?_ ?_ <;> simp [entO,GEntry.cells,rowOf]
  ·have e9 : i = 9:=by omega
   subst e9
   simp [beSt,rowOf]
   rw [hr]
   refine zzq [2] ?_ rfl (by simp) ?_
   ·simp
   ·rw [show (entL e).take 9 = entL e from rfl] at ha
    simp [ha,zbs]
noncomputable def zfx:=fam (fun e : GEntry=>[zaB e]) (fun _=>[]) (fun e=>GEntry.ok e) (fun e=>⟨.own 0 0 (zbs e).length,[rowOf (zbs e)]⟩)
@[simp] theorem refbytesSp_eq {e : GEntry} (h : GEntry.ok e) : zfx [zaB e] [] = some ⟨.own 0 0 (zbs e).length,[rowOf (zbs e)]⟩ :=
 zag (A:=fun e : GEntry=>[zaB e]) (fun i j h _=>by simp at h; rw [h]) e h
def rbStE (L : List Int) (i : Nat × List UInt8) : St :=
 mkSt [(3,.own 1 0 i.2.length),(4,.own 0 0 9),(5,.int .i64 i.1)] [(0,⟨3,1,zaF L,true,2,.rw⟩),(1,rowOf i.2)] 2
set_option maxHeartbeats 40000000 in
theorem zmA : Lift.Spec Tryz.prog 110 zfx:=by
 refine zaj (C:=CE9) zac zya follows Tryz.func110 (by kernel_rfl) rfl (by kernel_rfl) rfl ?_
 rintro e h
 try simp only at h
 refine ⟨by simp,?_⟩
 intro r hr
 simp [GEntry.cells]
 refine zal (rbStE (entL e)) (fun i=>i.1 ≤ 9 ∧ i.2 = encTo ((entL e).take i.1)) (fun i=>9 - i.1) (0,[]) ?_ ⟨Nat.zero_le _,rfl⟩ ?_
 ·refine (zcw 3 999 (sz:=1) (rowOf []) ?_ ?_ ?_).trans (zak [.inr 4,.inr 3] ?_ ?_ ?_ ?_) <;> simp [rowOf,entL,zaF]
 ·have hl : (entL e).length = 9:=rfl
  have h64:=zjx h
  have hle:=zqF h
  have hb : zbs e = encTo (entL e):=rfl
  generalize entL e = L at *
  rintro ⟨i,acc⟩ ⟨hi,ha⟩
  simp only at hi ha
  by_cases hik : i < 9
  ·have hacc : acc.length ≤ 90:=by rw [ha]; exact hle i
   have q5 : (acc.length : Int) ≤ 140737488351222:=by omega
   obtain ⟨x,hx,hx',_⟩:=zav (l:=L) (k:=i) (by omega)
   have hxi : In64 x:=h64 x (List.mem_of_getElem? hx)
   have hstep:=zk2 hx
   rw [← ha] at hstep
   have w4 : IntKind.i64.wrap ((i : Int) + 1) = (i : Int) + 1:=w64
   have hi9 : (i : Int) < 9:=by omega
   simp [rbStE,hik,hi9,hx',hl,hxi,q5,rowOf]
   refine Again.mk (i + 1,_) ⟨hik,hstep.symm⟩ (by show 9 - (i + 1) < 9 - i; omega) ?_
   refine zak [.inr 4,.inr 3] ?_ ?_ ?_ ?_ <;> simp [rowOf,w4]
  ·have e9 : i = 9:=by omega
   subst e9
   simp [rbStE,rowOf]
   rw [hr]
   rw [show L.take 9 = L by rw [← hl,List.take_length]] at ha
   refine zbN [.inr 2] rfl ?_ ?_ (by simp) ?_ ?_ ?_ ?_ <;> simp [rowOf,ha,hb]
def entOf (vs : List Int) : GEntry:=⟨vs.getD 0 0,vs.getD 1 0,vs.getD 2 0,vs.getD 3 0,vs.getD 4 0,vs.getD 5 0,vs.getD 6 0,vs.getD 7 0,vs.getD 8 0⟩
noncomputable def rdN : Nat → List UInt8 → List Int → Nat → List Int × Nat × Int
 | 0,_,vs,u=>(vs,u,0)
 | m + 1,l,vs,u=>if (takeT (l.drop u)).2.2 = 0 then rdN m l (vs ++ [(takeT (l.drop u)).1]) (u + (takeT (l.drop u)).2.1.toNat) else ([],0,(takeT (l.drop u)).2.2)
noncomputable def rdT (l : List UInt8) : List Int × Nat × Int:=hush (rdN 9 l [] 0)
theorem zva (l : List UInt8) : rdT l = rdN 9 l [] 0:=zdT _
def zeroE : GEntry:=⟨0,0,0,0,0,0,0,0,0⟩
noncomputable def zlo (l : List UInt8) : GEntry × Int × Int :=
 if (rdT l).2.2 = 0 then (if zbj (entOf (rdT l).1) = true then (entOf (rdT l).1,((rdT l).2.1 : Int),0) else (zeroE,0,18)) else (zeroE,0,(rdT l).2.2)
noncomputable def readE (l : List UInt8) : GEntry × Int × Int:=hush (zlo l)
theorem ziG (l : List UInt8) : readE l = zlo l:=zdT _
noncomputable def readV (l : List UInt8) : V:=.tup [zaB (readE l).1,.int .i64 (readE l).2.1,.int .i64 (readE l).2.2]
theorem zcS {l : List UInt8} {e : GEntry} {u x : Int} (h : readE l = (e,u,x)) : readV l = .tup [.agg (GEntry.cells e),.int .i64 u,.int .i64 x]:=by rw [readV,h]; rfl
noncomputable def zj2:=fam (fun i : Nat × List UInt8=>[V.sl i.1 1 (zae i.2)]) (fun _=>[]) (fun i=>(i.2.length : Int) ≤ 140737488355328) (fun i=>⟨readV i.2,[]⟩)
@[simp] theorem readSp_eq {t : Nat} {l : List UInt8} (h : (l.length : Int) ≤ 140737488355328) : zj2 [V.sl t 1 (zae l)] [] = some ⟨readV l,[]⟩ :=
 zag (A:=fun i : Nat × List UInt8=>[V.sl i.1 1 (zae i.2)]) (fun i j h _=>by simp at h; rw [h.2]) (t,l) h
noncomputable def CEA:=mkC [(198,zfm),(104,zcz),(120,zcz),(183,zdc),(136,zdc)]
theorem zyb : zai Tryz.prog CEA:=zat (all_cons zjC (all_cons zhB (all_cons zet (all_cons zko (all_cons zdK all_nil)))))
@[simp] theorem CEA_1 : CEA 198 = zfm:=rfl
@[simp] theorem CEA_2 : CEA 104 = zcz:=rfl
@[simp] theorem CEA_3 : CEA 120 = zcz:=rfl
@[simp] theorem CEA_4 : CEA 183 = zdc:=rfl
@[simp] theorem CEA_5 : CEA 136 = zdc:=rfl
structure RdOk (l : List UInt8) (i : Nat) (vs : List Int) (u : Nat) : Prop where
 le : i ≤ 9
 len : vs.length = i
 ul : u ≤ l.length
 tot : rdN (9 - i) l vs u = rdT l
theorem RdOk.init (l : List UInt8) : RdOk l 0 [] 0:=⟨Nat.zero_le _,rfl,Nat.zero_le _,(zva l).symm⟩
theorem RdOk.bad {l : List UInt8} {i : Nat} {vs : List Int} {u : Nat} (h : RdOk l i vs u) (hi : i < 9) {n k e : Int} (ht : takeT (l.drop u) = (n,k,e)) (he : ¬ e = 0) : readE l = (zeroE,0,e):=by
 have:=h.tot
 obtain ⟨m,hm⟩ : ∃ m,9 - i = m + 1:=⟨8 - i,by omega⟩
 rw [hm,rdN,ht] at this
 simp only at this
 rw [if_neg he] at this
 rw [ziG,zlo,← this]
 simp [he]
theorem RdOk.good {l : List UInt8} {i : Nat} {vs : List Int} {u : Nat} (h : RdOk l i vs u) (hi : i < 9) {n k : Int} (ht : takeT (l.drop u) = (n,k,0)) : RdOk l (i + 1) (vs ++ [n]) (u + k.toNat) ∧ 0 ≤ k:=by
 obtain ⟨_,rest,h1,h2⟩:=zfH ht
 have h3:=h.tot
 obtain ⟨m,hm⟩ : ∃ m,9 - i = m + 1:=⟨8 - i,by omega⟩
 rw [hm,rdN,ht] at h3
 simp only [if_true] at h3
 have hl:=congrArg List.length h1
 rw [List.length_drop,List.length_append] at hl
 have:=h.ul
 refine ⟨⟨hi,by simp [h.len],by omega,?_⟩,by omega⟩
 rw [show 9 - (i + 1) = m by omega]; exact h3
theorem RdOk.fin {l : List UInt8} {vs : List Int} {u : Nat} (h : RdOk l 9 vs u) : readE l = if zbj (entOf vs) = true then (entOf vs,(u : Int),0) else (zeroE,0,18):=by
 have:=h.tot
 rw [show 9 - 9 = 0 from rfl,rdN] at this
 rw [ziG,zlo,← this]
 rfl
def rdSt (t : Nat) (l : List UInt8) (i : Nat × List Int × Nat) : St :=
 mkSt [(0,.sl t 1 (zae l)),(2,.ptr 1 0 0),(5,.ptr 0 0 0),(6,.int .i64 i.2.2),(12,.agg [.ptr 0 0 0,.ptr 0 0 1,.ptr 0 0 2,.ptr 0 0 3,.ptr 0 0 4,.ptr 0 0 5,.ptr 0 0 6,.ptr 0 0 7,.ptr 0 0 8]),(13,.int .i64 i.1)] [(0,entO (entOf i.2.1)),(1,entO zeroE)] 2
set_option maxHeartbeats 40000000 in
theorem zvc : Lift.Spec Tryz.prog 202 zj2:=by
 refine zaj (C:=CEA) zac zyb follows Tryz.func202 (by kernel_rfl) rfl (by kernel_rfl) rfl ?_
 rintro ⟨t,l⟩ hl
 try simp only at hl
 refine ⟨by simp,?_⟩
 intro r hr
 have hN:=zjB (e:=zeroE)
 simp only [entO,GEntry.cells,zeroE] at hN
 simp [hN]
 refine zal (rdSt t l) (fun i=>RdOk l i.1 i.2.1 i.2.2) (fun i=>9 - i.1) (0,[],0) ?_ (RdOk.init l) ?_
 ·refine zak [.inr 5,.inr 2] ?_ ?_ ?_ ?_ <;> simp [entO,GEntry.cells,entOf,zeroE]
 ·rintro ⟨i,vs,u⟩ hI
  simp only at hI
  by_cases hik : i < 9
  ·have hu:=hI.ul
   have hvl:=hI.len
   have hu' : (u : Int) ≤ (l.length : Int):=by omega
   have htd : (l.drop u).take (l.length - u) = l.drop u:=List.take_of_length_le (by simp)
   rcases hT : takeT (l.drop u) with ⟨n,k,e⟩
   have h9:=nine hik
   by_cases he : e = 0
   ·subst he
    obtain ⟨hG,hk⟩:=hI.good hik hT
    have hGu:=hG.ul
    have wk : IntKind.i64.wrap ((u : Int) + k) = (u : Int) + k:=w64
    have hkk : ((u + k.toNat : Nat) : Int) = (u : Int) + k:=by omega
    clear hI
    rcases h9 with rfl | rfl | rfl | rfl | rfl | rfl | rfl | rfl | rfl
    all_goals
     simp [rdSt,entO,GEntry.cells,entOf,zeroE,takeV,htd,hT,hu',wk]
     refine Again.mk (_,_,_) hG (by simp) ?_
     refine zak [.inl 0,.inl 1] ?_ ?_ ?_ ?_ <;> simp [entO,GEntry.cells,entOf,zeroE,hkk,hvl]
   ·have hB:=hI.bad hik hT he
    clear hI
    rcases h9 with rfl | rfl | rfl | rfl | rfl | rfl | rfl | rfl | rfl
    all_goals
     simp [rdSt,entO,GEntry.cells,entOf,zeroE,takeV,htd,hT,hu',he]
     rw [hr]; refine zaa rfl ?_ rfl
     show _ = some (readV l)
     rw [zcS hB]
     simp [zeroE,GEntry.cells]
  ·have e9 : i = 9:=by have:=hI.le; omega
   subst e9
   have hF:=hI.fin
   cases hs : zbj (entOf vs)
   ·simp [rdSt,entO,GEntry.cells,zeroE,hs]
    rw [hr]; refine zaa rfl ?_ rfl
    show _ = some (readV l)
    rw [zcS (by rw [hF,hs]; first | done | rfl)]
    simp [zeroE,GEntry.cells]
   ·simp [rdSt,entO,GEntry.cells,zeroE,hs]
    rw [hr]; refine zaa rfl ?_ rfl
    show _ = some (readV l)
    rw [zcS (by rw [hF,hs]; first | done | rfl)]
    simp [GEntry.cells]
def rrSt (t : Nat) (l : List UInt8) (i : Nat × List Int × Nat) : St :=
 mkSt [(0,.sl t 1 (zae l)),(2,.ptr 1 0 0),(5,.ptr 0 0 0),(6,.int .i64 i.2.2),(7,.int .i64 i.1)] [(0,⟨165,9,[GEntry.cells (entOf i.2.1)],true,2,.rw⟩),(1,entO zeroE)] 2
set_option maxHeartbeats 40000000 in
theorem zn9 : Lift.Spec Tryz.prog 137 zj2:=by
 refine zaj (C:=CEA) zac zyb follows Tryz.func137 (by kernel_rfl) rfl (by kernel_rfl) rfl ?_
 rintro ⟨t,l⟩ hl
 try simp only at hl
 refine ⟨by simp,?_⟩
 intro r hr
 simp
 refine zal (rrSt t l) (fun i=>RdOk l i.1 i.2.1 i.2.2) (fun i=>9 - i.1) (0,[],0) ?_ (RdOk.init l) ?_
 ·refine zak [.inr 5,.inr 2] ?_ ?_ ?_ ?_ <;> simp [entO,GEntry.cells,entOf,zeroE]
 ·rintro ⟨i,vs,u⟩ hI
  simp only at hI
  by_cases hik : i < 9
  ·have hu:=hI.ul
   have hvl:=hI.len
   have hu' : (u : Int) ≤ (l.length : Int):=by omega
   have htd : (l.drop u).take (l.length - u) = l.drop u:=List.take_of_length_le (by simp)
   rcases hT : takeT (l.drop u) with ⟨n,k,e⟩
   have h9:=nine hik
   by_cases he : e = 0
   ·subst he
    obtain ⟨hG,hk⟩:=hI.good hik hT
    have hGu:=hG.ul
    have wk : IntKind.i64.wrap ((u : Int) + k) = (u : Int) + k:=w64
    have hkk : ((u + k.toNat : Nat) : Int) = (u : Int) + k:=by omega
    clear hI
    rcases h9 with rfl | rfl | rfl | rfl | rfl | rfl | rfl | rfl | rfl
    all_goals
     simp [rrSt,entO,GEntry.cells,entOf,zeroE,takeV,htd,hT,hu',wk]
     refine Again.mk (_,_,_) hG (by simp) ?_
     refine zak [.inl 0,.inl 1] ?_ ?_ ?_ ?_ <;> simp [entO,GEntry.cells,entOf,zeroE,hkk,hvl]
   ·have hB:=hI.bad hik hT he
    clear hI
    rcases h9 with rfl | rfl | rfl | rfl | rfl | rfl | rfl | rfl | rfl
    all_goals
     simp [rrSt,entO,GEntry.cells,entOf,zeroE,takeV,htd,hT,hu',he]
     rw [hr]; refine zaa rfl ?_ rfl
     show _ = some (readV l)
     rw [zcS hB]
     simp [zeroE,GEntry.cells]
  ·have e9 : i = 9:=by have:=hI.le; omega
   subst e9
   have hF:=hI.fin
   cases hs : zbj (entOf vs)
   ·simp [rrSt,entO,GEntry.cells,zeroE,hs]
    rw [hr]; refine zaa rfl ?_ rfl
    show _ = some (readV l)
    rw [zcS (by rw [hF,hs]; first | done | rfl)]
    simp [zeroE,GEntry.cells]
   ·simp [rrSt,entO,GEntry.cells,zeroE,hs]
    rw [hr]; refine zaa rfl ?_ rfl
    show _ = some (readV l)
    rw [zcS (by rw [hF,hs]; first | done | rfl)]
    simp [GEntry.cells]
end Go.Proofs.YtcpdgbncekdicaaGreat

namespace Go.Proofs.YtcpdgbncekdicaaGreat
open Go.Lift
theorem zu8 : ∀ (ns : List Int) (vs : List Int) (p more : List UInt8),(∀ n ∈ ns,In64 n) → rdN ns.length (p ++ (encTo ns ++ more)) vs p.length = (vs ++ ns,p.length + (encTo ns).length,0)
 | [],vs,p,more,_=>by simp [rdN,encTo]
 | x :: ns,vs,p,more,h=>by
  have e1 : encTo (x :: ns) = enc (code x) ++ encTo ns:=by simp [encTo]
  have hx:=zcu (h x (List.mem_cons_self ..)) (encTo ns ++ more)
  have hd : (p ++ (encTo (x :: ns) ++ more)).drop p.length = enc (code x) ++ (encTo ns ++ more):=by rw [e1]; simp
  have hp : p ++ (encTo (x :: ns) ++ more) = (p ++ enc (code x)) ++ (encTo ns ++ more):=by rw [e1]; simp
  have ih:=zu8 ns (vs ++ [x]) (p ++ enc (code x)) more (fun n hn=>h n (List.mem_cons_of_mem _ hn))
  show rdN (ns.length + 1) _ vs _ = _
  rw [rdN,hd,hx]
  simp only [if_true,Int.toNat_natCast]
  rw [hp]
  rw [List.length_append] at ih
  rw [ih,e1]
  simp [Nat.add_assoc]
theorem zra : ∀ (m : Nat) (l : List UInt8) (vs : List Int) (u : Nat) (vs' : List Int) (u' : Nat),u ≤ l.length → rdN m l vs u = (vs',u',0) → ∃ ns : List Int,ns.length = m ∧ (∀ n ∈ ns,In64 n) ∧ vs' = vs ++ ns ∧ u' = u + (encTo ns).length ∧ u' ≤ l.length ∧ ∃ rest,l.drop u = encTo ns ++ rest
 | 0,l,vs,u,vs',u',hu,h=>by
  simp only [rdN,Prod.mk.injEq,and_true] at h
  exact ⟨[],rfl,by simp,by simp [h.1],by simp [encTo,h.2],by omega,l.drop u,by simp [encTo]⟩
 | m + 1,l,vs,u,vs',u',hu,h=>by
  rw [rdN] at h
  rcases hT : takeT (l.drop u) with ⟨n,k,e⟩
  rw [hT] at h
  simp only at h
  by_cases he : e = 0
  ·subst he
   obtain ⟨hn,rest,h1,h2⟩:=zfH hT
   simp only [if_true] at h
   have hl:=congrArg List.length h1
   rw [List.length_drop,List.length_append] at hl
   have hk : k.toNat = (enc (code n)).length:=by omega
   rw [hk] at h
   obtain ⟨ns,g1,g2,g3,g4,g5,rest',g6⟩:=zra m l (vs ++ [n]) (u + (enc (code n)).length) vs' u' (by omega) h
   have e1 : encTo (n :: ns) = enc (code n) ++ encTo ns:=by simp [encTo]
   refine ⟨n :: ns,by simp [g1],fun x hx=>?_,by simp [g3],by rw [e1,List.length_append]; omega,g5,rest',?_⟩
   ·rcases List.mem_cons.1 hx with rfl | hx
    ·exact hn
    ·exact g2 x hx
   ·rw [e1,h1]
    have : l.drop (u + (enc (code n)).length) = rest:=by rw [← List.drop_drop,h1]; simp
    rw [this] at g6
    rw [g6,List.append_assoc]
  ·rw [if_neg he] at h
   simp only [Prod.mk.injEq] at h
   exact absurd h.2.2 he
theorem zuk {ns : List Int} (h : ns.length = 9) : entL (entOf ns) = ns:=by
 match ns,h with
 | [a,b,c,d,e,f,g,i,j],_=>rfl
theorem zrV (e : GEntry) : entOf (entL e) = e:=rfl
theorem zpK {e : GEntry} (h : GEntry.ok e) (more : List UInt8) : readE (zbs e ++ more) = if zbj e = true then (e,((zbs e).length : Int),0) else (zeroE,0,18):=by
 have hr:=zu8 (entL e) [] [] more (zjx h)
 simp only [List.nil_append,List.length_nil,Nat.zero_add] at hr
 have hT : rdT (zbs e ++ more) = (entL e,(zbs e).length,0):=by rw [zva]; exact hr
 rw [ziG,zlo,hT]
 simp only [if_true,zrV]
 rfl
theorem zfw {l : List UInt8} {y : GEntry} {m : Int} (h : readE l = (y,m,0)) : GEntry.ok y ∧ 1 ≤ m ∧ m ≤ l.length ∧ zbs y = l.take m.toNat:=by
 rw [ziG,zlo] at h
 rcases hT : rdT l with ⟨vs,u,e⟩
 rw [hT] at h
 simp only at h
 by_cases he : e = 0
 ·subst he
  rw [if_pos rfl] at h
  rw [zva] at hT
  obtain ⟨ns,g1,g2,g3,g4,g5,rest,g6⟩:=zra 9 l [] 0 vs u (Nat.zero_le _) hT
  simp only [List.nil_append,List.drop_zero,Nat.zero_add] at g3 g4 g6
  subst g3
  by_cases hs : zbj (entOf vs) = true
  ·rw [if_pos hs] at h
   simp only [Prod.mk.injEq,and_true] at h
   obtain ⟨rfl,rfl⟩:=h
   have hb : zbs (entOf vs) = encTo vs:=by unfold zbs; rw [zuk g1]
   have hpos : 1 ≤ (encTo vs).length:=by
    match vs,g1 with
    | x :: vs,_ =>
     have:=zhm (code x)
     rw [show encTo (x :: vs) = enc (code x) ++ encTo vs by simp [encTo],List.length_append]; omega
   refine ⟨?_,by omega,by omega,?_⟩
   ·have q:=zuk g1
    rw [← q] at g2
    simp only [entL,List.mem_cons,List.not_mem_nil,or_false,forall_eq_or_imp,forall_eq] at g2
    exact g2
   ·rw [hb,Int.toNat_natCast,g4,g6]; simp
  ·rw [if_neg hs] at h
   simp at h
 ·rw [if_neg he] at h
  simp only [Prod.mk.injEq] at h
  exact absurd h.2.2 he
@[simp] theorem vEntry_scalar (e : GEntry) : (zaB e).scalar = true:=rfl
end Go.Proofs.YtcpdgbncekdicaaGreat

namespace Go.Lift
end Go.Lift

namespace Go.Lift
def SemWp (P : Program) (N k : Nat) (c : Code) (Q : Exit → St → Prop) (st : St) : Prop :=
 ∀ w0 ex a w I γ,(∀ n,k ≤ n → ex.fix n = none) → Sim w0 ex N st a w I γ → ∀ Q' : Exit → Act → World → Prop,(∀ e st' a' w' I' γ',Q e st' → Sim w0 ex N st' a' w' I' γ' → Q' e a' w') → c.wp P Q' a w
section
variable {P : Program} {T : TypeId → Option TI} {C : FuncId → List V → List AObj → Option CRes} {N k : Nat}
theorem SemWp.weak {c : Code} {Q : Exit → St → Prop} {st st' : St} (hw : Weak k st st') (h : SemWp P N k c Q st') : SemWp P N k c Q st:=fun w0 ex a w I γ hk hs Q' hQ=>by
 obtain ⟨I',γ',hs'⟩:=hw w0 ex N a w I γ hk hs
 exact h w0 ex a w I' γ' hk hs' Q' hQ
theorem SemWp.mono {c : Code} {Q Q1 : Exit → St → Prop} {st : St} (h : SemWp P N k c Q st) (hQ : ∀ e st',Q e st' → Q1 e st') : SemWp P N k c Q1 st:=fun w0 ex a w I γ hk hs Q' hQ' =>
 h w0 ex a w I γ hk hs Q' fun e st' a' w' I' γ' hq hs'=>hQ' e st' a' w' I' γ' (hQ e st' hq) hs'
theorem SemWp.of_axwp (hT : zaJ P T) (hC : zai P C) (hm : P.follows .mixedOrders = true) {c : Code} (hd : dstOk N c = true) {Q : Exit → St → Prop} {st : St} (h : axwp T C k c Q st) : SemWp P N k c Q st:=fun _ _ _ _ _ _ hk hs _ hQ =>
 zkT hT hC hm hk c hd hs h hQ
theorem SemWp.loop {c : Code} {Q : Exit → St → Prop} {st : St} {ι : Type} (S : ι → St) (ok : ι → Prop) (μ : ι → Nat) (i0 : ι) (h0 : Weak k st (S i0)) (hok : ok i0)
 (round : ∀ i,ok i → SemWp P N k c (fun e st'=>match e with | .normal=>Again k S ok μ i st' | e=>Q e st') (S i)) : SemWp P N k (.loop c) Q st:=by
 intro w0 ex a w I γ hk hs Q' hQ
 obtain ⟨I0,γ0,hs0⟩:=h0 _ _ _ _ _ _ _ hk hs
 refine zrm (fun n a w=>∃ i I γ,ok i ∧ μ i = n ∧ Sim w0 ex N (S i) a w I γ) (fun n a w ⟨i,I,γ,h1,h2,hs⟩=>?_) (n:=μ i0) ⟨i0,I0,γ0,hok,rfl,hs0⟩
 refine round i h1 w0 ex a w I γ hk hs _ fun e st' a' w' I' γ' hq hs'=>?_
 cases e with
 | normal =>
  obtain ⟨j,q1,q2,q3⟩:=hq
  obtain ⟨I2,γ2,hs2⟩:=q3 _ _ _ _ _ _ _ hk hs'
  exact ⟨μ j,by omega,j,I2,γ2,q1,rfl,hs2⟩
 | _=>exact hQ _ _ _ _ _ _ hq hs'
def restC (f : Func) (p : List Nat) : Code:=subC p (bodyC f)
theorem zne (hT : zaJ P T) {f : FuncId} {fn : Func} (hf : P.funcs[f]? = some fn) (hb : fn.body = some (bodyC fn)) {args : List V} {objs : List AObj} {r : CRes} (hlen : args.length ≤ fn.ntmps)
 (hsem : SemWp P fn.ntmps objs.length (restC fn []) (Ret T fn.results.toList r objs.length) (zeT args objs)) {w : World} {I : Nat → Prop} {γ : Nat → Option GI} {vs : Array Value} {wr : Nat → Prop} (hE : Entry w I γ wr args objs vs) :
 Calls P f vs w fun e w'=>∃ v I' γ',e = .returned v ∧ Leave w I γ wr r w' I' γ' v:=by
 have hsem : SemWp P fn.ntmps objs.length (bodyC fn) (Ret T fn.results.toList r objs.length) (zeT args objs):=hsem
 refine calls_of_wp hf hb ?_
 have hsim : Sim w ⟨wr,I,γ⟩ fn.ntmps (zeT args objs) { tmps:=vs ++ Array.replicate (fn.ntmps - vs.size) undef,defers:=[] } w I γ:=by
  refine ⟨by have:=hE.len; simp; omega,fun n=>?_,hE.inv,rfl,hE.glob⟩
  simp only [zeT]
  by_cases hn : n < args.length
  ·have hn' : n < vs.size:=by rw [← hE.len]; exact hn
   have e1 : args.getD n .junk = args[n]:=by simp [hn]
   have e2 : (vs ++ Array.replicate (fn.ntmps - vs.size) undef).getD n undef = vs[n]:=by
    rw [Array.getD_eq_getD_getElem?,Array.getElem?_append_left hn',Array.getElem?_eq_getElem hn']; rfl
   rw [e1,e2]
   exact hE.rd n _ _ (List.getElem?_eq_getElem hn) (Array.getElem?_eq_getElem hn')
  ·have e1 : args.getD n .junk = .junk:=by simp [hn]
   rw [e1]; exact .junk _ _
 have hdom : ∀ n,objs.length ≤ n → γ n = none:=by
  intro n hn
  cases hg : γ n with
  | none=>rfl
  | some gi=>exact absurd (List.getElem?_eq_none hn) (hE.inv.dom n gi hg)
 refine hsem _ _ _ _ _ _ hdom hsim _ fun e st' a' w' I' γ' hq hs=>?_
 obtain ⟨st1,hw,he,hk,ns,n1,n2,n3,n4,n5,n6⟩:=hq
 obtain ⟨I1,γ1,hs⟩:=hw _ _ _ _ _ _ _ hdom hs
 obtain ⟨x,x1,x2⟩:=zlp (P:=P) hT hs n3
 have hinv:=hs.inv.unren (f:=ns) (g':=fun n=>r.objs[n]?) (fun n o hn=>n4 n o hn) (fun n m o o' h1 h2 he=>n2 n m (List.getElem?_eq_some_iff.1 h1).1 (List.getElem?_eq_some_iff.1 h2).1 he)
  (fun n o hn=>by
   have:=n6 o (List.mem_of_getElem? hn)
   have e : (fun n=>(r.objs[n]?).isSome) = fun j=>decide (j < r.objs.length):=by
    funext j
    by_cases hj : j < r.objs.length <;> simp [hj]
   rw [e]; exact this)
  (fun n gi hn=>by
   have hlt : n < objs.length:=Nat.lt_of_not_le fun hle=>by
    replace hn : γ n = some gi:=hn
    rw [hdom n hle] at hn; cases hn
   have : n < r.objs.length:=Nat.lt_of_lt_of_le hlt hk
   exact ⟨n1 n hlt,by simp [this]⟩)
 have hfin : a'.defers = [] ∧ ∃ v,(results fn a'.tmps).run P w' = .ok v w' ∧ ∃ v' I'' γ'',Ending.returned v = .returned v' ∧ Leave w I γ wr r w' I'' γ'' v':=by
  refine ⟨hs.defers,x,x1,x,I1,_,rfl,hinv,?_,?_⟩
  ·refine x2.unren (D:=fun j=>decide (j < r.objs.length)) _ rfl n5 fun n hn=>?_
   simp only [decide_eq_true_eq] at hn
   simp [hn]
  ·exact ⟨fun b hb=>⟨hs.inv.keep b hb,hs.inv.frame b (hE.inv.lt b hb) fun h=>hE.wrI b h hb⟩,hinv.fix⟩
 cases e with
 | normal=>exact hfin
 | ret=>exact hfin
 | _=>exact he.elim
theorem zvt {f : FuncId} {fn : Func} (hf : P.funcs[f]? = some fn) (hname : (fn.name == "runtime.NumGoroutine") = false) (hb : fn.body = some (bodyC fn))
 {ι : Type} {A : ι → List V} {O : ι → List AObj} {ok : ι → Prop} {res : ι → CRes} (h : ∀ i,ok i → (A i).length ≤ fn.ntmps ∧ ∀ r,r = res i → SemWp P fn.ntmps (O i).length (restC fn []) (Ret T fn.results.toList r (O i).length) (zeT (A i) (O i))) (hT : zaJ P T) : Spec P f (fam A O ok res):=by
 refine ⟨⟨fn,hf,hname,by rw [hb]; rfl⟩,fun args objs r hr w I γ wr vs hE=>?_⟩
 obtain ⟨i,hi,rfl,rfl,rfl⟩:=zqH hr
 obtain ⟨hlen,hax⟩:=h i hi
 exact zne hT hf hb hlen (hax _ rfl) hE
theorem Inv.dead {w0 w : World} {ex I γ} {g : Nat → Option AObj} (hi : Inv w0 ex I γ g w) {m : Nat} {o o' : AObj} (hg : g m = some o) (hd : o'.md = .dead) : Inv w0 ex I γ (upd g m (some o')) w:=by
 have hup : ∀ x y,upd g m (some o') x = some y → y.md ≠ .dead → g x = some y:=by
  intro x y h hy
  by_cases e : x = m
  ·subst e; rw [zaD] at h; cases h; exact absurd hd hy
  ·rw [zaz _ _ e] at h; exact h
 refine ⟨fun n x hx hm=>hi.obj n x (hup n x hx hm) hm,fun a b o1 o2 gi gi' h1 h2 d1 d2=>hi.inj a b o1 o2 gi gi' (hup a o1 h1 d1) (hup b o2 h2 d2) d1 d2,fun a o1 gi h1 d1=>hi.own a o1 gi (hup a o1 h1 d1) d1,fun a gi h1 h2=>?_,
  hi.lt,hi.keep,hi.fix,hi.back,hi.frame,hi.os,hi.tape,hi.output,hi.size,by
   obtain ⟨F,hF⟩:=hi.trees
   exact ⟨F,hF.less (fun _ h=>h) (fun _ _ _ _ _ _ _ h=>h) (fun n x hx hm=>.inl ⟨x,hup n x hx hm,hm,fun _ _ _ h _=>h⟩) (fun n x gi hx hm hγ _=>⟨hγ,x,hup n x hx hm,hm⟩)⟩⟩
 by_cases e : a = m
 ·subst e; rw [zaD] at h2; cases h2
 ·rw [zaz _ _ e] at h2; exact hi.dom a gi h1 h2
def zqv (st : St) (n : Nat) : Bool:=match st.g n with
 | some o=>decide (o.md ≠ .dead) && decide (o.fl ≠ 0)
 | none=>false
theorem zoy {st : St} {n : Nat} (h : zqv st n = true) : ∃ o,st.g n = some o ∧ o.md ≠ .dead ∧ o.fl ≠ 0:=by
 unfold zqv at h
 split at h
 ·rename_i o ho
  simp only [Bool.and_eq_true,decide_eq_true_eq] at h
  exact ⟨o,ho,h⟩
 ·cases h
end
end Go.Lift

namespace Go.Lift
variable {P : Program} {T : TypeId → Option TI} {C : FuncId → List V → List AObj → Option CRes} {k : Nat}
def open1 (st : St) (n j : Nat) : St:=match st.g n with
 | some o=>match o.elems with
  | [row]=>match row[j]? with
   | some (.tree sl et es rows tight fl)=>match st.g st.c with
    | none=>if o.md = .rw then { st with g:=upd (upd st.g n (some { o with elems:=[row.set j (handle sl st.c ⟨et,es,rows,tight,fl,.rw⟩)],fl:=0 })) st.c (some ⟨et,es,rows,tight,fl,.rw⟩),c:=st.c + 1 } else st
    | some _=>st
   | _=>st
  | _=>st
 | none=>st
def openL (st : St) : List (Nat × Nat) → St
 | []=>st
 | p :: l=>openL (open1 st p.1 p.2) l
theorem ztv (st : St) (n j : Nat) : Weak k st (open1 st n j):=by
 intro w0 ex N a w I γ hk hs
 unfold open1
 split
 ·rename_i o hg
  split
  ·rename_i row hrow
   split
   ·rename_i sl et es rows tight fl hc
    split
    ·rename_i hn
     split
     ·rename_i hmd
      obtain ⟨γ',h1,h2,_⟩:=hs.inv.unfold (nm:=st.c) (i:=0) (j:=j) (r:=row) hg hmd hn (by rw [hrow]; rfl) hc
      rw [hrow] at h1
      exact ⟨I,γ',hs.size,fun m=>h2.rd (hs.slots m),h1,hs.defers,hs.glob⟩
     ·exact ⟨I,γ,hs⟩
    ·exact ⟨I,γ,hs⟩
   ·exact ⟨I,γ,hs⟩
  ·exact ⟨I,γ,hs⟩
 ·exact ⟨I,γ,hs⟩
theorem zor : ∀ (l : List (Nat × Nat)) (st : St),Weak k st (openL st l)
 | [],st=>Weak.refl k st
 | p :: l,st=>(ztv st p.1 p.2).trans (zor l _)
def zoR (l : List Nat) (st : St) : St:={ st with g:=zas st.g (zcL st.g l) }
theorem zfI (l : List Nat) (st : St) : Weak k st (zoR l st):=by
 intro w0 ex N a w I γ hk hs
 exact ⟨I,γ,hs.size,hs.slots,zhi hs.inv l,hs.defers,hs.glob⟩
theorem zad (l : List (Nat × Nat)) (hT : zaJ P T) (hC : zai P C) (hm : P.follows .mixedOrders = true) {f : FuncId} {fn : Func} (hf : P.funcs[f]? = some fn) (hname : (fn.name == "runtime.NumGoroutine") = false) {c : Code} (hb : fn.body = some c) (hd : dstOk fn.ntmps c = true)
 {ι : Type} {A : ι → List V} {O : ι → List AObj} {ok : ι → Prop} {res : ι → CRes} {n : Nat} (hn : fn.ntmps = n) (h : ∀ i,ok i → (A i).length ≤ n ∧ ∀ r,r = res i → axwp T C (O i).length c (Ret T fn.results.toList r (O i).length) (openL (zeT (A i) (O i)) l)) : Spec P f (fam A O ok res):=by
 have hbc : bodyC fn = c:=by unfold bodyC; rw [hb]; rfl
 refine zvt hf hname (by rw [hb,hbc]) (fun i hi=>⟨by rw [hn]; exact (h i hi).1,fun r hr=>?_⟩) hT
 have:=SemWp.of_axwp (N:=fn.ntmps) hT hC hm hd ((h i hi).2 r hr)
 have e : restC fn [] = c:=by
  unfold restC; rw [hbc]; cases c <;> rfl
 rw [e]
 exact SemWp.weak (zor l _) this
def pick (st : St) : Nat ⊕ Nat → Nat
 | .inl n=>n
 | .inr s=>nmOf (st.s s)
def nil1 (st : St) (m j : Nat) (et : TypeId) (es : Nat) : St:=match st.g m with
 | some o=>match o.elems with
  | [row]=>match row[j]? with
   | some (.sl 0 _ [])=>match st.g st.c with
    | none=>{ st with g:=upd (upd st.g st.c (some ⟨et,es,[],false,2,.rw⟩)) m (some { o with elems:=[row.set j (.own st.c 0 0)],fl:=0 }),c:=st.c + 1 }
    | some _=>st
   | _=>st
  | _=>st
 | none=>st
def nilL (st : St) : List ((Nat ⊕ Nat) × Nat × TypeId × Nat) → St
 | []=>st
 | p :: l=>nilL (nil1 st (pick st p.1) p.2.1 p.2.2.1 p.2.2.2) l
theorem zop (st : St) (m j : Nat) (et : TypeId) (es : Nat) : Weak k st (nil1 st m j et es):=by
 intro w0 ex N a w I γ hk hs
 unfold nil1
 split
 ·rename_i o hg
  split
  ·rename_i row hrow
   split
   ·rename_i sz hc
    split
    ·rename_i hn
     have hne : m ≠ st.c:=fun e=>by rw [e,hn] at hg; cases hg
     obtain ⟨h1,h2⟩:=hs.inv.phantom hn (o:=⟨et,es,[],false,2,.rw⟩) rfl
     have hj : j < row.length:=(List.getElem?_eq_some_iff.1 hc).1
     refine ⟨I,_,hs.size,fun n=>h2.rd (hs.slots n),h1.redo (o:=o) (by rw [zaz _ _ hne]; exact hg) rfl (fun _ h=>?_) (fun i' j' u hu hut=>?_),hs.defers,hs.glob⟩
     ·refine ⟨fun e he=>?_,fun i' j' u hu=>?_,fun h0=>absurd rfl h0,fun h0=>by simp at h0,?_⟩
      ·simp at he; subst he
       rw [List.length_set]; exact h.rows row (by rw [hrow]; simp)
      ·rcases zb4 (rows:=[row]) (i:=0) rfl hj hu with ⟨rfl,rfl,rfl⟩ | ⟨_,h6⟩
       ·rfl
       ·exact h.cel _ _ _ (by rw [hrow]; exact h6)
      ·rcases h.at_ with ⟨he,_⟩ | ⟨gi,cur,fr,hγ,ha⟩
       ·rw [hrow] at he; cases he
       ·refine .inr ⟨gi,cur,fr,hγ,ha.nn,ha.es,ha.heap,ha.frz,ha.size,by have:=ha.le; rw [hrow] at this; simpa using this,fun ht=>by have:=ha.tight ht; rw [hrow] at this; simpa using this,ha.max,fun i' j' u hu=>?_,ha.ro,ha.rw⟩
        rcases zb4 (rows:=[row]) (i:=0) rfl hj hu with ⟨rfl,rfl,rfl⟩ | ⟨_,h6⟩
        ·obtain ⟨x,x1,x2⟩:=ha.cells 0 j' (.sl 0 sz []) (by rw [hrow]; exact zay rfl hc)
         refine ⟨x,x1,?_⟩
         cases x2 with
         | nil=>exact .ownnil _ _ _ ⟨0,0,0,true⟩ (by simp [gUp]) rfl
         | sl _ _ _ _ a n c xs h0=>exact absurd rfl h0
        ·exact ha.cells _ _ _ (by rw [hrow]; exact h6)
     ·rcases zb4 (rows:=[row]) (i:=0) rfl hj hu with ⟨rfl,rfl,rfl⟩ | ⟨_,h6⟩
      ·cases hut
      ·rw [hrow]; exact h6
    ·exact ⟨I,γ,hs⟩
   ·exact ⟨I,γ,hs⟩
  ·exact ⟨I,γ,hs⟩
 ·exact ⟨I,γ,hs⟩
theorem ze7 : ∀ (l : List ((Nat ⊕ Nat) × Nat × TypeId × Nat)) (st : St),Weak k st (nilL st l)
 | [],st=>Weak.refl k st
 | p :: l,st=>(zop st _ _ _ _).trans (ze7 l _)
def zcH (nl : List ((Nat ⊕ Nat) × Nat × TypeId × Nat)) (cl : List (Nat ⊕ Nat)) (st : St) : St:=zoR (cl.map (pick st)) (nilL st nl)
theorem zhb (nl : List ((Nat ⊕ Nat) × Nat × TypeId × Nat)) (cl : List (Nat ⊕ Nat)) (st : St) : Weak k st (zcH nl cl st):=(ze7 nl st).trans (zfI _ _)
theorem retC {T : TypeId → Option TI} {res : List ResultVar} {k : Nat} {e : Exit} {st : St} {v : V} {os : List AObj} (nl : List ((Nat ⊕ Nat) × Nat × TypeId × Nat)) (cl : List (Nat ⊕ Nat)) (l : List (Nat ⊕ Nat)) (he : isEnd e = true)
 (h : retV T (zcH nl cl st) res = some (v.ren (zaK (zcH nl cl st) l)) ∧ zgW (zaK (zcH nl cl st) l) (zcH nl cl st) 0 os ∧ k ≤ os.length ∧ (∀ j,j < k → zaK (zcH nl cl st) l j = j) ∧
  injL (zaK (zcH nl cl st) l) 0 os ∧ v.within (fun j=>decide (j < os.length)) = true ∧ ∀ o ∈ os,o.within (fun j=>decide (j < os.length)) = true) : Ret T res ⟨v,os⟩ k e st :=
 Ret.weak (zbN l he h.1 h.2.1 h.2.2.1 h.2.2.2.1 h.2.2.2.2.1 h.2.2.2.2.2.1 h.2.2.2.2.2.2) (zhb nl cl st)
def nilA (st : St) (m j es : Nat) : St:=match st.g m with
 | some o=>match o.elems with
  | [row]=>match row[j]? with
   | some (.sl 0 _ [])=>{ st with g:=upd st.g m (some { o with elems:=[row.set j (.sl 2 es [])] }) }
   | _=>st
  | _=>st
 | none=>st
theorem zoq (st : St) (m j es : Nat) : Weak k st (nilA st m j es):=by
 intro w0 ex N a w I γ hk hs
 unfold nilA
 split
 ·rename_i o hg
  split
  ·rename_i row hrow
   split
   ·rename_i sz hc
    have hj : j < row.length:=(List.getElem?_eq_some_iff.1 hc).1
    have hcell : ∀ {i' j' u},zah [row.set j (.sl 2 es [])] i' j' = some u → (i' = 0 ∧ j' = j ∧ u = .sl 2 es []) ∨ zah o.elems i' j' = some u:=by
     intro i' j' u hu
     rcases zb4 (rows:=[row]) (i:=0) rfl hj hu with ⟨h1,h2,h3⟩ | ⟨_,h6⟩
     ·exact .inl ⟨h1,h2,h3⟩
     ·exact .inr (by rw [hrow]; exact h6)
    refine ⟨I,γ,hs.size,hs.slots,hs.inv.redo hg rfl (fun _ h=>⟨fun e he=>?_,fun i' j' u hu=>?_,fun hf i' j' u hu=>?_,fun hf i' j' u hu=>?_,?_⟩) (fun i' j' u hu hut=>?_),hs.defers,hs.glob⟩
    ·simp at he; subst he
     rw [List.length_set]; exact h.rows row (by rw [hrow]; simp)
    ·rcases hcell hu with ⟨_,_,rfl⟩ | h6
     ·rfl
     ·exact h.cel _ _ _ h6
    ·rcases hcell hu with ⟨_,_,rfl⟩ | h6
     ·rfl
     ·exact h.closed hf _ _ _ h6
    ·rcases hcell hu with ⟨_,_,rfl⟩ | h6
     ·rfl
     ·exact h.scalar hf _ _ _ h6
    ·rcases h.at_ with ⟨he,_⟩ | ⟨gi,cur,fr,hγ,ha⟩
     ·rw [hrow] at he; cases he
     ·refine .inr ⟨gi,cur,fr,hγ,ha.nn,ha.es,ha.heap,ha.frz,ha.size,by have:=ha.le; rw [hrow] at this; simpa using this,fun ht=>by have:=ha.tight ht; rw [hrow] at this; simpa using this,ha.max,fun i' j' u hu=>?_,ha.ro,ha.rw⟩
      rcases hcell hu with ⟨rfl,rfl,rfl⟩ | h6
      ·obtain ⟨x,x1,x2⟩:=ha.cells 0 j' (.sl 0 sz []) (by rw [hrow]; exact zay rfl hc)
       refine ⟨x,x1,?_⟩
       cases x2 with
       | nil=>exact .nil _ 2 es (by decide)
       | sl _ _ _ _ a n c xs h0=>exact absurd rfl h0
      ·exact ha.cells _ _ _ h6
    ·rcases hcell hu with ⟨_,_,rfl⟩ | h6
     ·cases hut
     ·exact h6
   ·exact ⟨I,γ,hs⟩
  ·exact ⟨I,γ,hs⟩
 ·exact ⟨I,γ,hs⟩
def nilAt (st : St) (m : Nat ⊕ Nat) (j es : Nat) : St:=nilA st (pick st m) j es
theorem ztu {st : St} (m : Nat ⊕ Nat) (j es : Nat) : Weak k st (nilAt st m j es):=zoq _ _ _ _
attribute [simp] nilA nilAt
def tagO (o : AObj) : AObj:={ o with elems:=o.elems.map (·.map tagC) }
def tag1 (st : St) (m : Nat) : St:=match st.g m with
 | some o=>{ st with g:=upd st.g m (some (tagO o)) }
 | none=>st
def tagL (st : St) : List (Nat ⊕ Nat) → St
 | []=>st
 | p :: l=>tagL (tag1 st (pick st p)) l
theorem zfG (v : V) : tagC v = v ∨ ∃ t es rows,v = .sl t es rows ∧ tagC v = .sl 2 es rows:=by cases v <;> first | exact .inl rfl | exact .inr ⟨_,_,_,rfl,rfl⟩
theorem zv6 (st : St) (m : Nat) : Weak k st (tag1 st m):=by
 intro w0 ex N a w I γ hk hs
 unfold tag1
 split
 ·rename_i o hg
  have hcell : ∀ {i j u},zah (tagO o).elems i j = some u → ∃ u0,zah o.elems i j = some u0 ∧ u = tagC u0:=by
   intro i j u h
   obtain ⟨r,h1,h2⟩:=zan h
   simp only [tagO,List.getElem?_map] at h1
   cases hr : o.elems[i]? with
   | none=>rw [hr] at h1; cases h1
   | some r0 =>
    rw [hr] at h1; cases h1
    rw [List.getElem?_map] at h2
    cases hu : r0[j]? with
    | none=>rw [hu] at h2; cases h2
    | some u0=>rw [hu] at h2; cases h2; exact ⟨u0,zay hr hu,rfl⟩
  refine ⟨I,γ,hs.size,hs.slots,hs.inv.redo hg rfl (fun _ h=>⟨fun e he=>?_,fun i j u hu=>?_,fun hf i j u hu=>?_,fun hf i j u hu=>?_,?_⟩) (fun i j u hu hut=>?_),hs.defers,hs.glob⟩
  ·obtain ⟨e0,h1,rfl⟩:=List.mem_map.1 he
   rw [List.length_map]; exact h.rows e0 h1
  ·obtain ⟨u0,h1,rfl⟩:=hcell hu
   have:=h.cel _ _ _ h1
   rcases zfG u0 with e | ⟨t,es,rows,_,e⟩ <;> rw [e]
   ·exact this
   ·rfl
  ·obtain ⟨u0,h1,rfl⟩:=hcell hu
   have:=h.closed hf _ _ _ h1
   rcases zfG u0 with e | ⟨t,es,rows,_,e⟩ <;> rw [e]
   ·exact this
   ·rfl
  ·obtain ⟨u0,h1,rfl⟩:=hcell hu
   have:=h.scalar hf _ _ _ h1
   rcases zfG u0 with e | ⟨t,es,rows,e0,e⟩ <;> rw [e]
   ·exact this
   ·rw [e0] at this; simpa using this
  ·rcases h.at_ with ⟨he,gi,h1,h2⟩ | ⟨gi,cur,fr,hγ,ha⟩
   ·exact .inl ⟨by simp [tagO,he],gi,h1,h2⟩
   ·refine .inr ⟨gi,cur,fr,hγ,ha.nn,ha.es,ha.heap,ha.frz,ha.size,by simpa [tagO] using ha.le,by simpa [tagO] using ha.tight,ha.max,fun i j u hu=>?_,ha.ro,ha.rw⟩
    obtain ⟨u0,h1,rfl⟩:=hcell hu
    obtain ⟨x,x1,x2⟩:=ha.cells _ _ _ h1
    exact ⟨x,x1,zqc x2⟩
  ·obtain ⟨u0,h1,rfl⟩:=hcell hu
   rcases zfG u0 with e | ⟨t,es,rows,_,e⟩
   ·rw [e]; exact h1
   ·rw [e] at hut; cases hut
 ·exact ⟨I,γ,hs⟩
theorem zos : ∀ (l : List (Nat ⊕ Nat)) (st : St),Weak k st (tagL st l)
 | [],st=>Weak.refl k st
 | p :: l,st=>(zv6 st _).trans (zos l _)
def zi0 (st : St) : List Nat → Bool
 | []=>true
 | n :: l=>zqv st n && zi0 st l
theorem zi1 {st : St} : ∀ {l : List Nat},zi0 st l = true → ∀ n ∈ l,∃ o,st.g n = some o ∧ o.md ≠ .dead ∧ o.fl ≠ 0
 | [],_,n,h=>by simp at h
 | m :: l,h,n,hn=>by
  simp only [zi0,Bool.and_eq_true] at h
  rcases List.mem_cons.1 hn with rfl | hn
  ·exact zoy h.1
  ·exact zi1 h.2 n hn
def endSt (fz tg : List (Nat ⊕ Nat)) (nl : List ((Nat ⊕ Nat) × Nat × TypeId × Nat)) (cl : List (Nat ⊕ Nat)) (st : St) : St:=zcH nl cl (tagL (fzSt (fz.map (pick st)) st) tg)
theorem zx4 (fz tg : List (Nat ⊕ Nat)) (nl : List ((Nat ⊕ Nat) × Nat × TypeId × Nat)) (cl : List (Nat ⊕ Nat)) (st : St) (h : zi0 st (fz.map (pick st)) = true) : Weak k st (endSt fz tg nl cl st) :=
 (zqt _ (zi1 h)).trans ((zos tg _).trans (zhb nl cl _))
theorem retE {T : TypeId → Option TI} {res : List ResultVar} {k : Nat} {e : Exit} {st : St} {v : V} {os : List AObj} (fz tg : List (Nat ⊕ Nat)) (nl : List ((Nat ⊕ Nat) × Nat × TypeId × Nat)) (cl : List (Nat ⊕ Nat)) (l : List (Nat ⊕ Nat)) (he : isEnd e = true)
 (h : zi0 st (fz.map (pick st)) = true ∧ retV T (endSt fz tg nl cl st) res = some (v.ren (zaK (endSt fz tg nl cl st) l)) ∧ zgW (zaK (endSt fz tg nl cl st) l) (endSt fz tg nl cl st) 0 os ∧ k ≤ os.length ∧ (∀ j,j < k → zaK (endSt fz tg nl cl st) l j = j) ∧
  injL (zaK (endSt fz tg nl cl st) l) 0 os ∧ v.within (fun j=>decide (j < os.length)) = true ∧ ∀ o ∈ os,o.within (fun j=>decide (j < os.length)) = true) : Ret T res ⟨v,os⟩ k e st :=
 Ret.weak (zbN l he h.2.1 h.2.2.1 h.2.2.2.1 h.2.2.2.2.1 h.2.2.2.2.2.1 h.2.2.2.2.2.2.1 h.2.2.2.2.2.2.2) (zx4 fz tg nl cl st h.1)
def flAt (st : St) (m : Nat ⊕ Nat) (f : Nat) : St:=match st.g (pick st m) with
 | some o=>if f ≤ o.fl then { st with g:=upd st.g (pick st m) (some { o with fl:=f }) } else st
 | none=>st
theorem zbO {st : St} (m : Nat ⊕ Nat) (f : Nat) : Weak k st (flAt st m f):=by
 unfold flAt
 split
 ·rename_i o hg
  split
  ·rename_i hf; exact zzG _ _ o hg hf
  ·exact Weak.refl _ _
 ·exact Weak.refl _ _
attribute [simp] flAt tagO tag1 tagL zi0 zqv endSt
attribute [simp] open1 openL zoR pick nil1 nilL zcH AObj.within V.withinC V.within V.within.withinAll
end Go.Lift

namespace Go.Lift
variable {k : Nat}
def nilC (es : Nat) : V → V
 | .sl 0 _ []=>.sl 2 es []
 | v=>v
theorem zd6 (es : Nat) (v : V) : nilC es v = v ∨ ∃ e,v = .sl 0 e [] ∧ nilC es v = .sl 2 es []:=by
 unfold nilC
 split
 ·exact .inr ⟨_,rfl,rfl⟩
 ·exact .inl rfl
def nilO (es : Nat) (o : AObj) : AObj:={ o with elems:=o.elems.map (·.map (nilC es)) }
def nilR (st : St) (m : Nat ⊕ Nat) (es : Nat) : St:=match st.g (pick st m) with
 | some o=>{ st with g:=upd st.g (pick st m) (some (nilO es o)) }
 | none=>st
theorem zbP (st : St) (m : Nat ⊕ Nat) (es : Nat) : Weak k st (nilR st m es):=by
 intro w0 ex N a w I γ hk hs
 unfold nilR
 split
 ·rename_i o hg
  have hcell : ∀ {i j u},zah (nilO es o).elems i j = some u → ∃ u0,zah o.elems i j = some u0 ∧ u = nilC es u0:=by
   intro i j u h
   obtain ⟨r,h1,h2⟩:=zan h
   simp only [nilO,List.getElem?_map] at h1
   cases hr : o.elems[i]? with
   | none=>rw [hr] at h1; cases h1
   | some r0 =>
    rw [hr] at h1; cases h1
    rw [List.getElem?_map] at h2
    cases hu : r0[j]? with
    | none=>rw [hu] at h2; cases h2
    | some u0=>rw [hu] at h2; cases h2; exact ⟨u0,zay hr hu,rfl⟩
  refine ⟨I,γ,hs.size,hs.slots,hs.inv.redo hg rfl (fun _ h=>⟨fun e he=>?_,fun i j u hu=>?_,fun hf i j u hu=>?_,fun hf i j u hu=>?_,?_⟩) (fun i j u hu hut=>?_),hs.defers,hs.glob⟩
  ·obtain ⟨e0,h1,rfl⟩:=List.mem_map.1 he
   rw [List.length_map]; exact h.rows e0 h1
  ·obtain ⟨u0,h1,rfl⟩:=hcell hu
   have:=h.cel _ _ _ h1
   rcases zd6 es u0 with e | ⟨_,_,e⟩ <;> rw [e]
   ·exact this
   ·rfl
  ·obtain ⟨u0,h1,rfl⟩:=hcell hu
   have:=h.closed hf _ _ _ h1
   rcases zd6 es u0 with e | ⟨_,_,e⟩ <;> rw [e]
   ·exact this
   ·rfl
  ·obtain ⟨u0,h1,rfl⟩:=hcell hu
   have:=h.scalar hf _ _ _ h1
   rcases zd6 es u0 with e | ⟨_,_,e⟩ <;> rw [e]
   ·exact this
   ·rfl
  ·rcases h.at_ with ⟨he,gi,h1,h2⟩ | ⟨gi,cur,fr,hγ,ha⟩
   ·exact .inl ⟨by simp [nilO,he],gi,h1,h2⟩
   ·refine .inr ⟨gi,cur,fr,hγ,ha.nn,ha.es,ha.heap,ha.frz,ha.size,by simpa [nilO] using ha.le,by simpa [nilO] using ha.tight,ha.max,fun i j u hu=>?_,ha.ro,ha.rw⟩
    obtain ⟨u0,h1,rfl⟩:=hcell hu
    obtain ⟨x,x1,x2⟩:=ha.cells _ _ _ h1
    refine ⟨x,x1,?_⟩
    rcases zd6 es u0 with e | ⟨e0,he,e⟩ <;> rw [e]
    ·exact x2
    ·rw [he] at x2
     cases x2 with
     | nil=>exact .nil _ 2 es (by decide)
     | sl _ _ _ _ a n c xs h0=>exact absurd rfl h0
  ·obtain ⟨u0,h1,rfl⟩:=hcell hu
   rcases zd6 es u0 with e | ⟨_,_,e⟩
   ·rw [e]; exact h1
   ·rw [e] at hut; cases hut
 ·exact ⟨I,γ,hs⟩
def zuM (st : St) (m : Nat ⊕ Nat) : St:=match st.g (pick st m) with
 | some o=>{ st with g:=upd st.g (pick st m) (some { o with tight:=false }) }
 | none=>st
theorem zgl (st : St) (m : Nat ⊕ Nat) : Weak k st (zuM st m):=by
 unfold zuM
 split
 ·rename_i o hg; exact ztw _ o hg
 ·exact Weak.refl _ _
def slotR (st : St) (n es : Nat) : St:=match st.s n with
 | .sl 0 _ []=>{ st with s:=upd st.s n (.sl 2 es []) }
 | _=>st
theorem zax (st : St) (n es : Nat) : Weak k st (slotR st n es):=by
 unfold slotR
 split
 ·rename_i e he
  intro w0 ex N a w I γ hk hs
  refine ⟨I,γ,hs.size,fun m=>?_,hs.inv,hs.defers,hs.glob⟩
  have h:=hs.slots m
  by_cases hm : m = n
  ·subst hm
   rw [he] at h
   simp only [zaD]
   generalize a.tmps.getD m undef = x at h ⊢
   cases h with
   | nil=>exact .nil _ 2 es (by decide)
   | sl _ _ _ _ a n c xs h0=>exact absurd rfl h0
  ·simp only [zaz _ _ hm]; exact h
 ·exact Weak.refl _ _
def zt1 (st : St) (n j : Nat) : Nat:=match st.g n with
 | some o=>match o.elems with
  | [row]=>match row[j]? with
   | some v=>nmOf v
   | none=>0
  | _=>0
 | none=>0
def cellL (st : St) (l : List (Nat ⊕ Nat)) (cs : List (Nat × Nat)) : List (Nat ⊕ Nat):=l ++ cs.map fun p=>.inl (zt1 st p.1 p.2)
theorem retN {T : TypeId → Option TI} {res : List ResultVar} {k : Nat} {e : Exit} {st : St} {v : V} {os : List AObj} (fz l : List (Nat ⊕ Nat)) (cs : List (Nat × Nat)) (he : isEnd e = true)
 (h : zi0 st (fz.map (pick st)) = true ∧ retV T (endSt fz [] [] [] st) res = some (v.ren (zaK (endSt fz [] [] [] st) (cellL st l cs))) ∧ zgW (zaK (endSt fz [] [] [] st) (cellL st l cs)) (endSt fz [] [] [] st) 0 os ∧ k ≤ os.length ∧ (∀ j,j < k → zaK (endSt fz [] [] [] st) (cellL st l cs) j = j) ∧
  injL (zaK (endSt fz [] [] [] st) (cellL st l cs)) 0 os ∧ v.within (fun j=>decide (j < os.length)) = true ∧ ∀ o ∈ os,o.within (fun j=>decide (j < os.length)) = true) : Ret T res ⟨v,os⟩ k e st:=retE fz [] [] [] (cellL st l cs) he h
theorem zrl {st : St} {sl : List (Nat × V)} {ob : List (Nat × AObj)} {c : Nat} (l : List (Nat ⊕ Nat)) (cs : List (Nat × Nat)) (hs : ∀ p ∈ sl,st.s p.1 = p.2.ren (zaK st (cellL st l cs)) ∧ p.2.within (fun n=>(getG ob n).isSome) = true)
 (hg : ∀ p ∈ ob,st.g (zaK st (cellL st l cs) p.1) = some (p.2.ren (zaK st (cellL st l cs))) ∧ p.2.within (fun n=>(getG ob n).isSome) = true) (hinj : ∀ p ∈ ob,∀ q ∈ ob,zaK st (cellL st l cs) p.1 = zaK st (cellL st l cs) q.1 → p.1 = q.1) (hfix : ∀ n,n < k → zaK st (cellL st l cs) n = n ∧ (getG ob n).isSome = true) : Weak k st (mkSt sl ob c) :=
 zak (cellL st l cs) hs hg hinj hfix
attribute [simp] nilR nilO nilC zuM slotR zt1 cellL
end Go.Lift

namespace Go.Lift
set_option maxRecDepth 1000000
theorem tk_b {x y j e : Nat} (h5 : x ≤ 500000000) (h3 : e ≤ 4096) (u1 : j ≤ e) (u3 : y ≤ x + 65600 * (j + 1)) : y ≤ 1000000000:=by omega
theorem tk_0 {x y : Nat} (k : Nat) (h : y ≤ x + 65600) : y ≤ x + 65600 * (k + 1):=by omega
theorem tk_1 {x y z j : Nat} (h : z ≤ y + 65600) (u3 : y ≤ x + 65600 * (j + 1)) : z ≤ x + 65600 * (j + 1 + 1):=by omega
end Go.Lift

namespace Go.Proofs.YtcpdgbncekdicaaGreat
open Go.Lift
attribute [simp] zqd zvz zxH
def diskO (l : List UInt8) (d : Nat) : AObj:=⟨115,2,[[.tree true 5 1 (zae l) false 2,.int .i64 d]],true,0,.rw⟩
@[simp] theorem diskO_inj {a c : List UInt8} {b d : Nat} : diskO a b = diskO c d ↔ a = c ∧ b = d:=by
 constructor
 ·intro h
  simp [diskO] at h
  exact ⟨h.1,by omega⟩
 ·rintro ⟨rfl,rfl⟩; rfl
@[simp] theorem disk_names (l : List UInt8) (d : Nat) (f : Nat → Nat) : (diskO l d).ren f = diskO l d:=by simp [diskO]
@[simp] theorem disk_within (l : List UInt8) (d : Nat) (D : Nat → Bool) : (diskO l d).within D = true:=by simp [diskO]
@[simp] theorem disk_shut (l : List UInt8) (d : Nat) : nameless (diskO l d) = true:=by simp [diskO]
@[simp] theorem disk_scalar (l : List UInt8) (d : Nat) : zbu (diskO l d) = true:=by simp [diskO]
@[simp] theorem disk_elems (l : List UInt8) (d : Nat) : (diskO l d).elems = [[.tree true 5 1 (zae l) false 2,.int .i64 d]]:=rfl
@[simp] theorem disk_et (l : List UInt8) (d : Nat) : (diskO l d).et = 115:=rfl
@[simp] theorem disk_es (l : List UInt8) (d : Nat) : (diskO l d).es = 2:=rfl
@[simp] theorem disk_tight (l : List UInt8) (d : Nat) : (diskO l d).tight = true:=rfl
@[simp] theorem disk_fold (l : List UInt8) (d : Nat) : (⟨115,2,[[.tree true 5 1 (zae l) false 2,.int .i64 d]],true,0,.rw⟩ : AObj) = diskO l d:=rfl
@[simp] theorem disk_fold0 : (⟨115,2,[[.tree true 5 1 [] false 2,.int .i64 0]],true,0,.rw⟩ : AObj) = diskO [] 0:=rfl
@[simp] theorem disk_foldz (l : List UInt8) : (⟨115,2,[[.tree true 5 1 (zae l) false 2,.int .i64 0]],true,0,.rw⟩ : AObj) = diskO l 0:=rfl
@[simp] theorem disk_md (l : List UInt8) (d : Nat) : (diskO l d).md = .rw:=rfl
@[simp] theorem disk_fl (l : List UInt8) (d : Nat) : (diskO l d).fl = 0:=rfl
noncomputable def zfd:=fam (fun _ : (List UInt8) × Nat=>[V.ptr 0 0 0]) (fun i=>[diskO i.1 i.2]) (fun i=>(i.1.length ≤ 4611686018427387904)) (fun i=>⟨.tup [],[diskO i.1 i.1.length]⟩)
@[simp] theorem dksyncSp_eq {l : List UInt8} {d : Nat} (h1 : l.length ≤ 4611686018427387904) : zfd ([V.ptr 0 0 0]) ([diskO l d]) = some (⟨.tup [],[diskO l l.length]⟩) :=
 zag (by rintro ⟨a0,a1⟩ ⟨b0,b1⟩ h h' <;> simp at h h' <;> simp_all) (l,d) h1
theorem zjl : Lift.Spec Tryz.prog 101 zfd:=by
 refine zad [] (C:=C0) zac C0_ok follows Tryz.func101 (by kernel_rfl) rfl (by kernel_rfl) rfl ?_
 rintro ⟨l,d⟩ h1
 try simp only at h1
 refine ⟨by simp,?_⟩
 intro r hr
 simp
 rw [hr]
 refine retC [] [.inl 0] [] rfl ?_
 simp
noncomputable def zdl:=fam (fun i : (List UInt8) × Nat × Nat × (List UInt8)=>[V.ptr 0 0 0,.sl i.2.2.1 1 (zae i.2.2.2)]) (fun i=>[diskO i.1 i.2.1]) (fun i=>(i.1.length + i.2.2.2.length ≤ 140737488355328)) (fun i=>⟨.tup [],[diskO (i.1 ++ i.2.2.2) i.2.1]⟩)
@[simp] theorem dkappendSp_eq {l : List UInt8} {d t : Nat} {b : List UInt8} (h1 : l.length + b.length ≤ 140737488355328) : zdl ([V.ptr 0 0 0,.sl t 1 (zae b)]) ([diskO l d]) = some (⟨.tup [],[diskO (l ++ b) d]⟩) :=
 zag (by rintro ⟨a0,a1,a2,a3⟩ ⟨b0,b1,b2,b3⟩ h h' <;> simp at h h' <;> simp_all) (l,d,t,b) h1
theorem zgA : Lift.Spec Tryz.prog 147 zdl:=by
 refine zad [] (C:=C0) zac C0_ok follows Tryz.func147 (by kernel_rfl) rfl (by kernel_rfl) rfl ?_
 rintro ⟨l,d,t,b⟩ h1
 try simp only at h1
 refine ⟨by simp,?_⟩
 intro r hr
 have h2 : (l.length : Int) + (b.length : Int) ≤ 140737488355328:=by omega
 simp [h2]
 rw [hr]
 refine retC [] [.inl 0] [] rfl ?_
 simp
noncomputable def zc6:=fam (fun _ : (List UInt8) × Nat=>[V.ptr 0 0 0]) (fun i=>[diskO i.1 i.2]) (fun i=>(i.1.length ≤ 140737488355328)) (fun i=>⟨.own 1 0 i.1.length,[diskO i.1 i.2,⟨5,1,zae i.1,false,2,.rw⟩]⟩)
@[simp] theorem dkbytesSp_eq {l : List UInt8} {d : Nat} (h1 : l.length ≤ 140737488355328) : zc6 ([V.ptr 0 0 0]) ([diskO l d]) = some (⟨.own 1 0 l.length,[diskO l d,⟨5,1,zae l,false,2,.rw⟩]⟩) :=
 zag (by rintro ⟨a0,a1⟩ ⟨b0,b1⟩ h h' <;> simp at h h' <;> simp_all) (l,d) h1
theorem zeN : Lift.Spec Tryz.prog 124 zc6:=by
 refine zad [(0,0)] (C:=C0) zac C0_ok follows Tryz.func124 (by kernel_rfl) rfl (by kernel_rfl) rfl ?_
 rintro ⟨l,d⟩ h1
 try simp only at h1
 refine ⟨by simp,?_⟩
 intro r hr
 have h2 : (l.length : Int) ≤ 140737488355328:=by omega
 simp [h2]
 (repeat refine dr ?_)
 rw [hr]
 refine retC [] [.inl 0] [.inl 0,.inr 2] rfl ?_
 simp
noncomputable def zjm:=fam (fun _ : Unit=>[]) (fun _=>[]) (fun _=>True) (fun _=>⟨.ptr 0 0 0,[diskO [] 0]⟩)
theorem zug {u : Unit}  : zjm ([]) ([]) = some (⟨.ptr 0 0 0,[diskO [] 0]⟩) :=
 zag (by intro a b h h' <;> simp at h h' <;> simp_all) u trivial
@[simp] theorem dnewSp_at : zjm [] [] = some ⟨.ptr 0 0 0,[diskO [] 0]⟩:=zug (u:=())
theorem znm : Lift.Spec Tryz.prog 59 zjm:=by
 refine zaj (C:=C0) zac C0_ok follows Tryz.func59 (by kernel_rfl) rfl (by kernel_rfl) rfl ?_
 rintro u _
 try simp only at _
 refine ⟨by simp,?_⟩
 intro r hr
 simp
 rw [hr]
 refine retC [(.inr 0,0,5,1)] [.inr 0] [.inr 0] rfl ?_
 simp
noncomputable def CK1:=mkC [(101,zfd),(124,zc6)]
theorem zye : zai Tryz.prog CK1:=zat (all_cons zjl (all_cons zeN all_nil))
@[simp] theorem CK1_1 : CK1 101 = zfd:=rfl
@[simp] theorem CK1_2 : CK1 124 = zc6:=rfl
noncomputable def zfc:=fam (fun _ : (List UInt8) × Nat=>[V.ptr 0 0 0]) (fun i=>[diskO i.1 i.2]) (fun i=>(i.1.length ≤ 140737488355328)) (fun i=>⟨.ptr 1 0 0,[diskO i.1 i.2,diskO i.1 i.2]⟩)
@[simp] theorem dkcopySp_eq {l : List UInt8} {d : Nat} (h1 : l.length ≤ 140737488355328) : zfc ([V.ptr 0 0 0]) ([diskO l d]) = some (⟨.ptr 1 0 0,[diskO l d,diskO l d]⟩) :=
 zag (by rintro ⟨a0,a1⟩ ⟨b0,b1⟩ h h' <;> simp at h h' <;> simp_all) (l,d) h1
theorem zjk : Lift.Spec Tryz.prog 95 zfc:=by
 refine zad [] (C:=CK1) zac zye follows Tryz.func95 (by kernel_rfl) rfl (by kernel_rfl) rfl ?_
 rintro ⟨l,d⟩ h1
 try simp only at h1
 refine ⟨by simp,?_⟩
 intro r hr
 simp [h1]
 (repeat refine dr ?_)
 rw [hr]
 refine retC [] [.inr 2] [.inl 0,.inr 2] rfl ?_
 simp
def za9 (n d : Nat) (keep : Int) : Nat:=d + min keep.toNat (n - d)
noncomputable def zd0:=fam (fun i : (List UInt8) × Nat × Int=>[V.ptr 0 0 0,.int .i64 i.2.2]) (fun i=>[diskO i.1 i.2.1]) (fun i=>(i.1.length ≤ 140737488355328) ∧ (i.2.1 ≤ i.1.length)) (fun i=>⟨.tup [],[diskO (i.1.take (za9 i.1.length i.2.1 i.2.2)) (za9 i.1.length i.2.1 i.2.2)]⟩)
@[simp] theorem znk {l : List UInt8} {d : Nat} {keep : Int} (h1 : l.length ≤ 140737488355328) (h2 : d ≤ l.length) : zd0 ([V.ptr 0 0 0,.int .i64 keep]) ([diskO l d]) = some (⟨.tup [],[diskO (l.take (za9 l.length d keep)) (za9 l.length d keep)]⟩) :=
 zag (by rintro ⟨a0,a1,a2⟩ ⟨b0,b1,b2⟩ h h' <;> simp at h h' <;> simp_all) (l,d,keep) ⟨h1,h2⟩
theorem zhP : Lift.Spec Tryz.prog 113 zd0:=by
 refine zad [(0,0)] (C:=CK1) zac zye follows Tryz.func113 (by kernel_rfl) rfl (by kernel_rfl) rfl ?_
 rintro ⟨l,d,keep⟩ ⟨h1,h2⟩
 try simp only at h1 h2
 refine ⟨by simp,?_⟩
 intro r hr
 have w1 : IntKind.i64.wrap ((l.length : Int) - d) = l.length - d:=w64
 have hk : ∀ p k : Int,0 ≤ p → (if 0 < if p < k then p else k then if p < k then p else k else 0) = ((min k.toNat p.toNat : Nat) : Int):=by
  intro p k hp
  split <;> split at * <;> omega
 have hc : za9 l.length d keep ≤ l.length:=by unfold za9; omega
 have h3 : min (za9 l.length d keep) l.length = za9 l.length d keep:=by omega
 have h4 : za9 l.length d keep ≤ 4611686018427387904:=by omega
 have w2 : IntKind.i64.wrap ((d : Int) + ((min keep.toNat ((l.length : Int) - d).toNat : Nat) : Int)) = ((za9 l.length d keep : Nat) : Int):=by
  rw [w64]; unfold za9; omega
 simp [w1]
 (repeat refine dr ?_)
 rw [hk _ _ (by omega),w2]
 simp [hc,h3,h4]
 (repeat refine dr ?_)
 rw [hr]
 refine retC [] [.inl 0] [] rfl ?_
 simp
def zkp (l : List UInt8) (d : Nat) (n : Int) : AObj:=if n < 0 ∨ (l.length : Int) < n then diskO l d else diskO (l.take n.toNat) (min d n.toNat)
def zfV (l : List UInt8) (n : Int) : Int:=if n < 0 ∨ (l.length : Int) < n then 1 else 0
noncomputable def zgB:=fam (fun i : (List UInt8) × Nat × Int=>[V.ptr 0 0 0,.int .i64 i.2.2]) (fun i=>[diskO i.1 i.2.1]) (fun i=>(i.1.length ≤ 140737488355328) ∧ (i.2.1 ≤ i.1.length)) (fun i=>⟨.int .i64 (zfV i.1 i.2.2),[zkp i.1 i.2.1 i.2.2]⟩)
@[simp] theorem dktruncSp_eq {l : List UInt8} {d : Nat} {n : Int} (h1 : l.length ≤ 140737488355328) (h2 : d ≤ l.length) : zgB ([V.ptr 0 0 0,.int .i64 n]) ([diskO l d]) = some (⟨.int .i64 (zfV l n),[zkp l d n]⟩) :=
 zag (by rintro ⟨a0,a1,a2⟩ ⟨b0,b1,b2⟩ h h' <;> simp at h h' <;> simp_all) (l,d,n) ⟨h1,h2⟩
theorem znl : Lift.Spec Tryz.prog 134 zgB:=by
 refine zad [(0,0)] (C:=C0) zac C0_ok follows Tryz.func134 (by kernel_rfl) rfl (by kernel_rfl) rfl ?_
 rintro ⟨l,d,n⟩ ⟨h1,h2⟩
 try simp only at h1 h2
 refine ⟨by simp,?_⟩
 intro r hr
 by_cases h0 : n < 0
 ·simp [h0]
  (repeat refine dr ?_)
  rw [hr]
  refine retC [] [.inl 0] [] rfl ?_
  simp [zfV,zkp,h0]
 ·by_cases h3 : (l.length : Int) < n
  ·simp [h0,h3]
   rw [hr]
   refine retC [] [.inl 0] [] rfl ?_
   simp [zfV,zkp,h0,h3]
  ·obtain ⟨k,rfl⟩:=Int.eq_ofNat_of_zero_le (show 0 ≤ n by omega)
   have h4 : k ≤ l.length:=by omega
   have h5 : (if k < d then (k : Int) else d) = ((min d k : Nat) : Int):=by split <;> omega
   simp [h0,h3,h4,h5]
   rw [hr]
   refine retC [] [.inl 0] [] rfl ?_
   simp [zfV,zkp,h0,h3,h4,h5]
end Go.Proofs.YtcpdgbncekdicaaGreat

namespace Go.Proofs.YtcpdgbncekdicaaGreat
open Go.Lift
def refO (l : List UInt8) (d : Nat) : AObj:=⟨117,2,[[.sl 2 1 (zae l),.int .i64 d]],true,1,.rw⟩
@[simp] theorem refO_inj {a c : List UInt8} {b d : Nat} : refO a b = refO c d ↔ a = c ∧ b = d:=by
 constructor
 ·intro h
  simp [refO] at h
  exact ⟨h.1,by omega⟩
 ·rintro ⟨rfl,rfl⟩; rfl
@[simp] theorem ref_elems (l : List UInt8) (d : Nat) : (refO l d).elems = [[.sl 2 1 (zae l),.int .i64 d]]:=rfl
@[simp] theorem ref_et (l : List UInt8) (d : Nat) : (refO l d).et = 117:=rfl
@[simp] theorem ref_es (l : List UInt8) (d : Nat) : (refO l d).es = 2:=rfl
@[simp] theorem ref_tight (l : List UInt8) (d : Nat) : (refO l d).tight = true:=rfl
@[simp] theorem ref_md (l : List UInt8) (d : Nat) : (refO l d).md = .rw:=rfl
@[simp] theorem ref_fl (l : List UInt8) (d : Nat) : (refO l d).fl = 1:=rfl
@[simp] theorem ref_fold (l : List UInt8) (d : Nat) : (⟨117,2,[[.sl 2 1 (zae l),.int .i64 d]],true,1,.rw⟩ : AObj) = refO l d:=rfl
@[simp] theorem ref_fold0 : (⟨117,2,[[.sl 2 1 [],.int .i64 0]],true,1,.rw⟩ : AObj) = refO [] 0:=rfl
@[simp] theorem ref_foldz (l : List UInt8) : (⟨117,2,[[.sl 2 1 (zae l),.int .i64 0]],true,1,.rw⟩ : AObj) = refO l 0:=rfl
@[simp] theorem ref_names (l : List UInt8) (d : Nat) (f : Nat → Nat) : (refO l d).ren f = refO l d:=by simp [AObj.ren]
@[simp] theorem ref_shut (l : List UInt8) (d : Nat) : nameless (refO l d) = true:=rfl
@[simp] theorem ref_scalar (l : List UInt8) (d : Nat) : zbu (refO l d) = false:=rfl
noncomputable def zmG:=fam (fun _ : (List UInt8) × Nat=>[V.ptr 0 0 0]) (fun i=>[refO i.1 i.2]) (fun i=>(i.1.length ≤ 4611686018427387904)) (fun i=>⟨.tup [],[refO i.1 i.1.length]⟩)
@[simp] theorem rsyncSp_eq {l : List UInt8} {d : Nat} (h1 : l.length ≤ 4611686018427387904) : zmG ([V.ptr 0 0 0]) ([refO l d]) = some (⟨.tup [],[refO l l.length]⟩) :=
 zag (by rintro ⟨a0,a1⟩ ⟨b0,b1⟩ h h' <;> simp at h h' <;> simp_all) (l,d) h1
theorem zsD : Lift.Spec Tryz.prog 111 zmG:=by
 refine zad [] (C:=C0) zac C0_ok follows Tryz.func111 (by kernel_rfl) rfl (by kernel_rfl) rfl ?_
 rintro ⟨l,d⟩ h1
 try simp only at h1
 refine ⟨by simp,?_⟩
 intro r hr
 simp
 rw [hr]
 refine retC [] [] [] rfl ?_
 simp
noncomputable def zgY:=fam (fun i : (List UInt8) × Nat × Nat × (List UInt8)=>[V.ptr 0 0 0,.sl i.2.2.1 1 (zae i.2.2.2)]) (fun i=>[refO i.1 i.2.1]) (fun i=>(i.1.length + i.2.2.2.length ≤ 140737488355328)) (fun i=>⟨.tup [],[refO (i.1 ++ i.2.2.2) i.2.1]⟩)
@[simp] theorem rappendSp_eq {l : List UInt8} {d t : Nat} {b : List UInt8} (h1 : l.length + b.length ≤ 140737488355328) : zgY ([V.ptr 0 0 0,.sl t 1 (zae b)]) ([refO l d]) = some (⟨.tup [],[refO (l ++ b) d]⟩) :=
 zag (by rintro ⟨a0,a1,a2,a3⟩ ⟨b0,b1,b2,b3⟩ h h' <;> simp at h h' <;> simp_all) (l,d,t,b) h1
theorem zn2 : Lift.Spec Tryz.prog 130 zgY:=by
 refine zad [] (C:=C0) zac C0_ok follows Tryz.func130 (by kernel_rfl) rfl (by kernel_rfl) rfl ?_
 rintro ⟨l,d,t,b⟩ h1
 try simp only at h1
 refine ⟨by simp,?_⟩
 intro r hr
 have h2 : (l.length : Int) + (b.length : Int) ≤ 140737488355328:=by omega
 have h3 : (l.length : Int) ≤ 140737488355328:=by omega
 simp [h2,h3]
 rw [hr]
 refine retE [.inr 12] [.inl 0] [] [] [] rfl ?_
 simp
noncomputable def zoa:=fam (fun _ : Unit=>[]) (fun _=>[]) (fun _=>True) (fun _=>⟨.ptr 0 0 0,[refO [] 0]⟩)
theorem zvg {u : Unit}  : zoa ([]) ([]) = some (⟨.ptr 0 0 0,[refO [] 0]⟩) :=
 zag (by intro a b h h' <;> simp at h h' <;> simp_all) u trivial
@[simp] theorem rnewSp_at : zoa [] [] = some ⟨.ptr 0 0 0,[refO [] 0]⟩:=zvg (u:=())
theorem zvh : Lift.Spec Tryz.prog 60 zoa:=by
 refine zaj (C:=C0) zac C0_ok follows Tryz.func60 (by kernel_rfl) rfl (by kernel_rfl) rfl ?_
 rintro u _
 try simp only at _
 refine ⟨by simp,?_⟩
 intro r hr
 simp
 rw [hr]
 refine Ret.weak (retE [] [.inr 0] [] [] [.inr 0] rfl ?_) (zbO (.inr 0) 1)
 simp
noncomputable def zmz:=fam (fun _ : (List UInt8) × Nat=>[V.ptr 0 0 0]) (fun i=>[refO i.1 i.2]) (fun i=>(i.1.length ≤ 140737488355328)) (fun i=>⟨.ptr 1 0 0,[refO i.1 i.2,refO i.1 i.2]⟩)
@[simp] theorem rcopySp_eq {l : List UInt8} {d : Nat} (h1 : l.length ≤ 140737488355328) : zmz ([V.ptr 0 0 0]) ([refO l d]) = some (⟨.ptr 1 0 0,[refO l d,refO l d]⟩) :=
 zag (by rintro ⟨a0,a1⟩ ⟨b0,b1⟩ h h' <;> simp at h h' <;> simp_all) (l,d) h1
theorem zsA : Lift.Spec Tryz.prog 97 zmz:=by
 refine zad [] (C:=C0) zac C0_ok follows Tryz.func97 (by kernel_rfl) rfl (by kernel_rfl) rfl ?_
 rintro ⟨l,d⟩ h1
 try simp only at h1
 refine ⟨by simp,?_⟩
 intro r hr
 have h2 : (l.length : Int) ≤ 140737488355328:=by omega
 simp [h2]
 (repeat refine dr ?_)
 rw [hr]
 refine retE [.inr 8] [] [] [] [.inl 0,.inr 2] rfl ?_
 simp
noncomputable def ziE:=fam (fun i : (List UInt8) × Nat × Int=>[V.ptr 0 0 0,.int .i64 i.2.2]) (fun i=>[refO i.1 i.2.1]) (fun i=>(i.1.length ≤ 140737488355328) ∧ (i.2.1 ≤ i.1.length)) (fun i=>⟨.tup [],[refO (i.1.take (za9 i.1.length i.2.1 i.2.2)) (za9 i.1.length i.2.1 i.2.2)]⟩)
@[simp] theorem zpI {l : List UInt8} {d : Nat} {keep : Int} (h1 : l.length ≤ 140737488355328) (h2 : d ≤ l.length) : ziE ([V.ptr 0 0 0,.int .i64 keep]) ([refO l d]) = some (⟨.tup [],[refO (l.take (za9 l.length d keep)) (za9 l.length d keep)]⟩) :=
 zag (by rintro ⟨a0,a1,a2⟩ ⟨b0,b1,b2⟩ h h' <;> simp at h h' <;> simp_all) (l,d,keep) ⟨h1,h2⟩
theorem zpJ : Lift.Spec Tryz.prog 115 ziE:=by
 refine zad [] (C:=C0) zac C0_ok follows Tryz.func115 (by kernel_rfl) rfl (by kernel_rfl) rfl ?_
 rintro ⟨l,d,keep⟩ ⟨h1,h2⟩
 try simp only at h1 h2
 refine ⟨by simp,?_⟩
 intro r hr
 have w1 : IntKind.i64.wrap ((l.length : Int) - d) = l.length - d:=w64
 have hk : ∀ p k : Int,0 ≤ p → (if p < (if k < 0 then 0 else k) then p else (if k < 0 then 0 else k)) = ((min k.toNat p.toNat : Nat) : Int):=by
  intro p k hp
  split <;> split at * <;> omega
 have hc : za9 l.length d keep ≤ l.length:=by unfold za9; omega
 have h3 : min (za9 l.length d keep) l.length = za9 l.length d keep:=by omega
 have h4 : (za9 l.length d keep : Int) ≤ 140737488355328:=by omega
 have w2 : IntKind.i64.wrap ((d : Int) + ((min keep.toNat ((l.length : Int) - d).toNat : Nat) : Int)) = ((za9 l.length d keep : Nat) : Int):=by
  rw [w64]; unfold za9; omega
 simp [w1]
 (repeat refine dr ?_)
 rw [hk _ _ (by omega),w2]
 simp [hc,h3,h4]
 rw [hr]
 refine retE [.inr 31] [] [] [] [] rfl ?_
 simp [h3,List.take_take]
def zez (l : List UInt8) (d : Nat) (n : Int) : AObj:=if n < 0 ∨ (l.length : Int) < n then refO l d else refO (l.take n.toNat) (min d n.toNat)
noncomputable def ziO:=fam (fun i : (List UInt8) × Nat × Int=>[V.ptr 0 0 0,.int .i64 i.2.2]) (fun i=>[refO i.1 i.2.1]) (fun i=>(i.1.length ≤ 140737488355328) ∧ (i.2.1 ≤ i.1.length)) (fun i=>⟨.int .i64 (zfV i.1 i.2.2),[zez i.1 i.2.1 i.2.2]⟩)
@[simp] theorem rtruncSp_eq {l : List UInt8} {d : Nat} {n : Int} (h1 : l.length ≤ 140737488355328) (h2 : d ≤ l.length) : ziO ([V.ptr 0 0 0,.int .i64 n]) ([refO l d]) = some (⟨.int .i64 (zfV l n),[zez l d n]⟩) :=
 zag (by rintro ⟨a0,a1,a2⟩ ⟨b0,b1,b2⟩ h h' <;> simp at h h' <;> simp_all) (l,d,n) ⟨h1,h2⟩
theorem zpW : Lift.Spec Tryz.prog 119 ziO:=by
 refine zad [] (C:=C0) zac C0_ok follows Tryz.func119 (by kernel_rfl) rfl (by kernel_rfl) rfl ?_
 rintro ⟨l,d,n⟩ ⟨h1,h2⟩
 try simp only at h1 h2
 refine ⟨by simp,?_⟩
 intro r hr
 by_cases h0 : n < 0
 ·simp [h0]
  (repeat refine dr ?_)
  rw [hr]
  refine retC [] [] [] rfl ?_
  simp [zfV,zez,h0]
 ·by_cases h3 : (l.length : Int) < n
  ·simp [h0,h3]
   rw [hr]
   refine retC [] [] [] rfl ?_
   simp [zfV,zez,h0,h3]
  ·obtain ⟨k,rfl⟩:=Int.eq_ofNat_of_zero_le (show 0 ≤ n by omega)
   have h4 : k ≤ l.length:=by omega
   have h5 : (if k < d then (k : Int) else d) = ((min d k : Nat) : Int):=by split <;> omega
   have h6 : min k l.length = k:=by omega
   have h7 : (k : Int) ≤ 140737488355328:=by omega
   simp [h0,h3,h4,h5,h6,h7]
   rw [hr]
   refine retE [.inr 24] [] [] [] [] rfl ?_
   simp [zfV,zez,h0,h3,h4,h5,List.take_take]
end Go.Proofs.YtcpdgbncekdicaaGreat

namespace Go.Proofs.YtcpdgbncekdicaaGreat
open Go.Lift
structure JN where
 b : List UInt8
 d : Nat
 term : Int
 vote : Int
 log : List GLogged
def stE (J : JN) (t v : Int) : Int:=if t < 0 ∨ 1073741824 < t ∨ v < -1 ∨ 5 ≤ v then 1 else if t < J.term ∨ t = J.term ∧ J.vote ≠ -1 ∧ J.vote ≠ v then 20 else 0
def stJ (J : JN) (t v : Int) : JN:=if stE J t v = 0 then { J with term:=t,vote:=v } else J
def logAt (l : List GLogged) (i : Int) : GLogged:=if 0 ≤ i ∧ i < l.length then l.getD i.toNat ⟨0,⟨0,0,0,0,0,0,0,0,0⟩⟩ else ⟨0,⟨0,0,0,0,0,0,0,0,0⟩⟩
def lastT (l : List GLogged) : Int:=(logAt l ((l.length : Int) - 1)).Term
def adE (J : JN) (t : Int) (e : GEntry) : Int:=if t < 1 ∨ 1073741824 < t ∨ zbj e = false then 1 else if J.term < t ∨ t < lastT J.log then 20 else if 4096 ≤ J.log.length then 2 else 0
def adJ (J : JN) (t : Int) (e : GEntry) : JN:=if adE J t e = 0 then { J with log:=J.log ++ [⟨t,e⟩] } else J
def cuE (J : JN) (n : Int) : Int:=if n < 0 ∨ (J.log.length : Int) < n then 1 else 0
def cuJ (J : JN) (n : Int) : JN:=if cuE J n = 0 then { J with log:=J.log.take n.toNat } else J
def rjO (J : JN) : AObj:=⟨79,4,[[.tree false 117 2 [[.sl 2 1 (zae J.b),.int .i64 J.d]] true 1,.int .i64 J.term,.int .i64 J.vote,.sl 2 10 (GLogged.row J.log)]],true,0,.rw⟩
@[simp] theorem rjO_inj {J K : JN} : rjO J = rjO K ↔ J = K:=by
 constructor
 ·intro h
  obtain ⟨b,d,t,v,l⟩:=J
  obtain ⟨b',d',t',v',l'⟩:=K
  simp [rjO] at h
  simp [h]
  omega
 ·rintro rfl; rfl
@[simp] theorem rj_elems (J : JN) : (rjO J).elems = [[.tree false 117 2 [[.sl 2 1 (zae J.b),.int .i64 J.d]] true 1,.int .i64 J.term,.int .i64 J.vote,.sl 2 10 (GLogged.row J.log)]]:=rfl
@[simp] theorem rj_et (J : JN) : (rjO J).et = 79:=rfl
@[simp] theorem rj_es (J : JN) : (rjO J).es = 4:=rfl
@[simp] theorem rj_tight (J : JN) : (rjO J).tight = true:=rfl
@[simp] theorem rj_md (J : JN) : (rjO J).md = .rw:=rfl
@[simp] theorem rj_fl (J : JN) : (rjO J).fl = 0:=rfl
@[simp] theorem rj_fold (b : List UInt8) (d : Nat) (t v : Int) (l : List GLogged) : (⟨79,4,[[.tree false 117 2 [[.sl 2 1 (zae b),.int .i64 d]] true 1,.int .i64 t,.int .i64 v,.sl 2 10 (GLogged.row l)]],true,0,.rw⟩ : AObj) = rjO ⟨b,d,t,v,l⟩:=rfl
@[simp] theorem rj_foldn (b : List UInt8) (d : Nat) (t v : Int) : (⟨79,4,[[.tree false 117 2 [[.sl 2 1 (zae b),.int .i64 d]] true 1,.int .i64 t,.int .i64 v,.sl 2 10 []]],true,0,.rw⟩ : AObj) = rjO ⟨b,d,t,v,[]⟩:=rfl
@[simp] theorem rj_foldz (t v : Int) : (⟨79,4,[[.tree false 117 2 [[.sl 2 1 [],.int .i64 0]] true 1,.int .i64 t,.int .i64 v,.sl 2 10 []]],true,0,.rw⟩ : AObj) = rjO ⟨[],0,t,v,[]⟩:=rfl
@[simp] theorem zzr (J : JN) : nameless (rjO J) = true:=by simp [nameless]
@[simp] theorem rj_names (J : JN) (f : Nat → Nat) : (rjO J).ren f = rjO J:=AObj.ren_nl (zzr J)
@[simp] theorem rj_within (J : JN) (D : Nat → Bool) : (rjO J).within D = true:=by simp
@[simp] theorem rj_scalar (J : JN) : zbu (rjO J) = false:=by simp [zbu]
noncomputable def zht:=fam (fun i : JN × Int × Int=>[V.ptr 0 0 0,.int .i64 i.2.1,.int .i64 i.2.2]) (fun i=>[rjO i.1]) (fun _=>True) (fun i=>⟨.int .i64 (stE i.1 i.2.1 i.2.2),[rjO (stJ i.1 i.2.1 i.2.2)]⟩)
@[simp] theorem jrSetSp_eq {J : JN} {t v : Int}  : zht ([V.ptr 0 0 0,.int .i64 t,.int .i64 v]) ([rjO J]) = some (⟨.int .i64 (stE J t v),[rjO (stJ J t v)]⟩) :=
 zag (by rintro ⟨a0,a1,a2⟩ ⟨b0,b1,b2⟩ h h' <;> simp at h h' <;> simp_all) (J,t,v) trivial
theorem zlf : Lift.Spec Tryz.prog 129 zht:=by
 refine zad [] (C:=C0) zac C0_ok follows Tryz.func129 (by kernel_rfl) rfl (by kernel_rfl) rfl ?_
 rintro ⟨J,t,v⟩ _
 refine ⟨by simp,?_⟩
 intro r hr
 by_cases h1 : t < 0
 ·have e : stE J t v = 1:=by unfold stE; (repeat' split) <;> omega
  simp [h1]
  rw [hr]
  refine retC [] [] [] rfl ?_
  simp [e,stJ]
 by_cases h2 : 1073741824 < t
 ·have e : stE J t v = 1:=by unfold stE; (repeat' split) <;> omega
  simp [h1,h2]
  rw [hr]
  refine retC [] [] [] rfl ?_
  simp [e,stJ]
 by_cases h3 : v < -1
 ·have e : stE J t v = 1:=by unfold stE; (repeat' split) <;> omega
  simp [h1,h2,h3]
  rw [hr]
  refine retC [] [] [] rfl ?_
  simp [e,stJ]
 by_cases h4 : 5 ≤ v
 ·have e : stE J t v = 1:=by unfold stE; (repeat' split) <;> omega
  simp [h1,h2,h3,h4]
  rw [hr]
  refine retC [] [] [] rfl ?_
  simp [e,stJ]
 by_cases h5 : t < J.term
 ·have e : stE J t v = 20:=by unfold stE; (repeat' split) <;> omega
  simp [h1,h2,h3,h4,h5]
  rw [hr]
  refine retC [] [] [] rfl ?_
  simp [e,stJ]
 by_cases h6 : t = J.term
 ·by_cases h7 : J.vote = -1
  ·have e : stE J t v = 0:=by unfold stE; (repeat' split) <;> omega
   simp [h1,h2,h3,h4,h5,eq_true h6,h7]
   rw [hr]
   refine retC [] [] [] rfl ?_
   simp [e,stJ]
  ·by_cases h8 : J.vote = v
   ·have e : stE J t v = 0:=by unfold stE; (repeat' split) <;> omega
    simp [h1,h2,h3,h4,h5,eq_true h6,eq_false h7,eq_true h8]
    rw [hr]
    refine retC [] [] [] rfl ?_
    simp [e,stJ]
   ·have e : stE J t v = 20:=by unfold stE; (repeat' split) <;> omega
    simp [h1,h2,h3,h4,h5,eq_true h6,h7,h8]
    rw [hr]
    refine retC [] [] [] rfl ?_
    simp [e,stJ]
 ·have e : stE J t v = 0:=by unfold stE; (repeat' split) <;> omega
  simp [h1,h2,h3,h4,h5,h6]
  rw [hr]
  refine retC [] [] [] rfl ?_
  simp [e,stJ]
@[simp] theorem zuL (l : List GLogged) {i : Int} (h : i < 0) : logAt l i = ⟨0,⟨0,0,0,0,0,0,0,0,0⟩⟩:=by unfold logAt; rw [if_neg (by omega)]
@[simp] theorem logAt_ge (l : List GLogged) {i : Int} (h : (l.length : Int) ≤ i) : logAt l i = ⟨0,⟨0,0,0,0,0,0,0,0,0⟩⟩:=by unfold logAt; rw [if_neg (by omega)]
theorem zb1 {l : List GLogged} {k : Nat} {x : GLogged} (h : l[k]? = some x) : logAt l (k : Int) = x:=by
 have hlt:=(List.getElem?_eq_some_iff.1 h).1
 unfold logAt
 rw [if_pos (by omega)]
 simp [h]
def hasAt (l : List GLogged) (i : Int) : Bool:=decide (0 ≤ i ∧ i < l.length)
noncomputable def zld:=fam (fun i : JN × Int=>[V.ptr 0 0 0,.int .i64 i.2]) (fun i=>[rjO i.1]) (fun _=>True) (fun i=>⟨.tup [zaM (logAt i.1.log i.2),.bool (hasAt i.1.log i.2)],[rjO i.1]⟩)
@[simp] theorem jrAtSp_eq {J : JN} {i : Int}  : zld ([V.ptr 0 0 0,.int .i64 i]) ([rjO J]) = some (⟨.tup [zaM (logAt J.log i),.bool (hasAt J.log i)],[rjO J]⟩) :=
 zag (by rintro ⟨a0,a1⟩ ⟨b0,b1⟩ h h' <;> simp at h h' <;> simp_all) (J,i) trivial
theorem znK : Lift.Spec Tryz.prog 30 zld:=by
 refine zad [] (C:=C0) zac C0_ok follows Tryz.func30 (by kernel_rfl) rfl (by kernel_rfl) rfl ?_
 rintro ⟨J,i⟩ _
 refine ⟨by simp,?_⟩
 intro r hr
 by_cases h1 : i < 0
 ·simp [h1]
  rw [hr]
  refine retC [] [] [] rfl ?_
  have e : hasAt J.log i = false:=by simp [hasAt]; omega
  simp [h1,e,zaM,GLogged.cells]
 by_cases h2 : (J.log.length : Int) ≤ i
 ·simp [h1,h2]
  rw [hr]
  refine retC [] [] [] rfl ?_
  have e : hasAt J.log i = false:=by simp [hasAt]; omega
  simp [h2,e,zaM,GLogged.cells]
 obtain ⟨k,rfl⟩:=Int.eq_ofNat_of_zero_le (show 0 ≤ i by omega)
 have hk : k < J.log.length:=by omega
 obtain ⟨x,hx,hx',_⟩:=zav hk
 have e : hasAt J.log k = true:=by simp [hasAt]; omega
 simp [h1,h2,hk,hx',GLogged.cells]
 rw [hr]
 refine retC [] [] [] rfl ?_
 simp [e,zb1 hx,zaM,GLogged.cells]
noncomputable def CK5:=mkC [(30,zld)]
theorem zzT : zai Tryz.prog CK5:=zat (all_cons znK all_nil)
@[simp] theorem CK5_1 : CK5 30 = zld:=rfl
noncomputable def zbw:=fam (fun i : JN × Int=>[V.ptr 0 0 0,.int .i64 i.2]) (fun i=>[rjO i.1]) (fun _=>True) (fun i=>⟨.int .i64 (logAt i.1.log i.2).Term,[rjO i.1]⟩)
@[simp] theorem jrTermAtSp_eq {J : JN} {i : Int}  : zbw ([V.ptr 0 0 0,.int .i64 i]) ([rjO J]) = some (⟨.int .i64 (logAt J.log i).Term,[rjO J]⟩) :=
 zag (by rintro ⟨a0,a1⟩ ⟨b0,b1⟩ h h' <;> simp at h h' <;> simp_all) (J,i) trivial
theorem zcP : Lift.Spec Tryz.prog 94 zbw:=by
 refine zad [] (C:=CK5) zac zzT follows Tryz.func94 (by kernel_rfl) rfl (by kernel_rfl) rfl ?_
 rintro ⟨J,i⟩ _
 refine ⟨by simp,?_⟩
 intro r hr
 simp [GLogged.cells]
 rw [hr]
 refine retC [] [] [] rfl ?_
 simp [GLogged.cells]
noncomputable def CK6:=mkC [(94,zbw)]
theorem zzU : zai Tryz.prog CK6:=zat (all_cons zcP all_nil)
@[simp] theorem CK6_1 : CK6 94 = zbw:=rfl
noncomputable def zdI:=fam (fun _ : JN=>[V.ptr 0 0 0]) (fun i=>[rjO i]) (fun i=>(i.log.length ≤ 4611686018427387904)) (fun i=>⟨.int .i64 (lastT i.log),[rjO i]⟩)
@[simp] theorem jrLastSp_eq {J : JN} (h1 : J.log.length ≤ 4611686018427387904) : zdI ([V.ptr 0 0 0]) ([rjO J]) = some (⟨.int .i64 (lastT J.log),[rjO J]⟩) :=
 zag (by intro a b h h' <;> simp at h h' <;> simp_all) J h1
theorem zgb : Lift.Spec Tryz.prog 82 zdI:=by
 refine zad [] (C:=CK6) zac zzU follows Tryz.func82 (by kernel_rfl) rfl (by kernel_rfl) rfl ?_
 rintro J h1
 try simp only at h1
 refine ⟨by simp,?_⟩
 intro r hr
 have w1 : IntKind.i64.wrap ((J.log.length : Int) - 1) = J.log.length - 1:=w64
 simp [w1]
 rw [hr]
 refine retC [] [] [] rfl ?_
 simp [lastT]
noncomputable def zhs:=fam (fun i : JN × Int=>[V.ptr 0 0 0,.int .i64 i.2]) (fun i=>[rjO i.1]) (fun i=>(i.1.log.length ≤ 1000000000)) (fun i=>⟨.int .i64 (cuE i.1 i.2),[rjO (cuJ i.1 i.2)]⟩)
@[simp] theorem jrCutSp_eq {J : JN} {n : Int} (h1 : J.log.length ≤ 1000000000) : zhs ([V.ptr 0 0 0,.int .i64 n]) ([rjO J]) = some (⟨.int .i64 (cuE J n),[rjO (cuJ J n)]⟩) :=
 zag (by rintro ⟨a0,a1⟩ ⟨b0,b1⟩ h h' <;> simp at h h' <;> simp_all) (J,n) h1
theorem zle : Lift.Spec Tryz.prog 138 zhs:=by
 refine zad [] (C:=C0) zac C0_ok follows Tryz.func138 (by kernel_rfl) rfl (by kernel_rfl) rfl ?_
 rintro ⟨J,n⟩ h0
 try simp only at h0
 refine ⟨by simp,?_⟩
 intro r hr
 by_cases h1 : n < 0
 ·simp [h1]
  rw [hr]
  refine retC [] [] [] rfl ?_
  simp [cuE,cuJ,h1]
 by_cases h2 : (J.log.length : Int) < n
 ·simp [h1,h2]
  rw [hr]
  refine retC [] [] [] rfl ?_
  simp [cuE,cuJ,h1,h2]
 obtain ⟨k,rfl⟩:=Int.eq_ofNat_of_zero_le (show 0 ≤ n by omega)
 have hk : k ≤ J.log.length:=by omega
 have h3 : min k J.log.length = k:=by omega
 have h4 : (k : Int) * 80 ≤ 140737488355328:=by omega
 have h5 : (k : Int) ≤ 140737488355328:=by omega
 simp [h1,h2,hk,h3,h4,h5]
 rw [hr]
 refine retE [.inr 24] [] [] [] [] rfl ?_
 simp [cuE,cuJ,h1,h2,h3,List.take_take]
noncomputable def CK7:=mkC [(82,zdI),(120,zcz)]
theorem zzV : zai Tryz.prog CK7:=zat (all_cons zgb (all_cons zet all_nil))
@[simp] theorem CK7_1 : CK7 82 = zdI:=rfl
@[simp] theorem CK7_2 : CK7 120 = zcz:=rfl
noncomputable def zhr:=fam (fun i : JN × Int × GEntry=>[V.ptr 0 0 0,.int .i64 i.2.1,zaB i.2.2]) (fun i=>[rjO i.1]) (fun i=>(i.1.log.length ≤ 1000000000)) (fun i=>⟨.int .i64 (adE i.1 i.2.1 i.2.2),[rjO (adJ i.1 i.2.1 i.2.2)]⟩)
@[simp] theorem jrAddSp_eq {J : JN} {t : Int} {e : GEntry} (h1 : J.log.length ≤ 1000000000) : zhr ([V.ptr 0 0 0,.int .i64 t,zaB e]) ([rjO J]) = some (⟨.int .i64 (adE J t e),[rjO (adJ J t e)]⟩) :=
 zag (by rintro ⟨a0,a1,a2⟩ ⟨b0,b1,b2⟩ h h' <;> simp at h h' <;> simp_all) (J,t,e) h1
theorem zlc : Lift.Spec Tryz.prog 107 zhr:=by
 refine zad [] (C:=CK7) zac zzV follows Tryz.func107 (by kernel_rfl) rfl (by kernel_rfl) rfl ?_
 rintro ⟨J,t,e⟩ h0
 try simp only at h0
 refine ⟨by simp,?_⟩
 intro r hr
 have h9 : J.log.length ≤ 4611686018427387904:=by omega
 by_cases h1 : t < 1
 ·have c : adE J t e = 1:=by unfold adE; rw [if_pos (.inl h1)]
  simp [h1,h9,GEntry.cells]
  rw [hr]
  refine retC [] [] [] rfl ?_
  simp [c,adJ]
 by_cases h2 : 1073741824 < t
 ·have c : adE J t e = 1:=by unfold adE; rw [if_pos (.inr (.inl h2))]
  simp [h1,h2,h9,GEntry.cells]
  rw [hr]
  refine retC [] [] [] rfl ?_
  simp [c,adJ]
 cases h3 : zbj e with
 | false =>
  have c : adE J t e = 1:=by unfold adE; rw [if_pos (.inr (.inr h3))]
  simp [h1,h2,h3,h9,GEntry.cells,zaE]
  rw [hr]
  refine retC [] [] [] rfl ?_
  simp [c,adJ]
 | true =>
  have hn : ¬ (t < 1 ∨ 1073741824 < t ∨ zbj e = false):=by rw [h3]; simp; omega
  by_cases h4 : J.term < t
  ·have c : adE J t e = 20:=by unfold adE; rw [if_neg hn,if_pos (.inl h4)]
   simp [h1,h2,h3,h4,h9,GEntry.cells,zaE]
   rw [hr]
   refine retC [] [] [] rfl ?_
   simp [c,adJ]
  by_cases h5 : t < lastT J.log
  ·have c : adE J t e = 20:=by unfold adE; rw [if_neg hn,if_pos (.inr h5)]
   simp [h1,h2,h3,h4,h5,h9,GEntry.cells,zaE]
   rw [hr]
   refine retC [] [] [] rfl ?_
   simp [c,adJ]
  have hn2 : ¬ (J.term < t ∨ t < lastT J.log):=by omega
  by_cases h6 : (4096 : Int) ≤ (J.log.length : Int)
  ·have c : adE J t e = 2:=by unfold adE; rw [if_neg hn,if_neg hn2,if_pos (by omega)]
   simp [h1,h2,h3,h4,h5,h6,h9,GEntry.cells,zaE]
   rw [hr]
   refine retC [] [] [] rfl ?_
   simp [c,adJ]
  ·have c : adE J t e = 0:=by unfold adE; rw [if_neg hn,if_neg hn2,if_neg (by omega)]
   have k1 : (J.log.length : Int) * 80 ≤ 140737488355328:=by omega
   have k2 : (J.log.length : Int) ≤ 140737488355328:=by omega
   have k3 : ((J.log.length : Int) + 1) * 80 ≤ 140737488355328:=by omega
   have k4 : (J.log.length : Int) + 1 ≤ 140737488355328:=by omega
   simp [h1,h2,h3,h4,h5,h6,h9,k1,k2,k3,k4,GEntry.cells,zaE,GLogged.cells]
   have hrow : [[V.int .i64 t,.int .i64 e.Kind,.int .i64 e.Tick,.int .i64 e.Tenant,.int .i64 e.Cell,.int .i64 e.Other,.int .i64 e.Epoch,.int .i64 e.From,.int .i64 e.Until,.int .i64 e.N]] = GLogged.row [⟨t,e⟩]:=rfl
   (repeat refine dr ?_)
   rw [hr]
   refine retE [.inr 50] [] [] [] [] rfl ?_
   have ht : (J.log ++ [(⟨t,e⟩ : GLogged)]).take (J.log.length + 1) = J.log ++ [⟨t,e⟩]:=List.take_of_length_le (by simp)
   simp [c,adJ,hrow,ht]
def recA (t v : Int) : List UInt8:=enc (code 1) ++ enc (code t) ++ enc (code v)
def recE (t : Int) (e : GEntry) : List UInt8:=enc (code 2) ++ enc (code t) ++ zbs e
def recC (n : Int) : List UInt8:=enc (code 3) ++ enc (code n)
noncomputable def putJ (J : JN) (p : List UInt8) : JN:={ J with b:=J.b ++ putB 8 [] p }
@[simp] theorem putJ_d (J : JN) (p : List UInt8) : (putJ J p).d = J.d:=rfl
@[simp] theorem putJ_log (J : JN) (p : List UInt8) : (putJ J p).log = J.log:=rfl
theorem in8 : In64 8:=by unfold In64; omega
theorem zmx {key : Int} {p : List UInt8} (h : p.length ≤ 65536) : (putB key [] p).length ≤ 65600:=by
 unfold putB
 rw [if_neg (by omega),List.nil_append,zjF]
 have:=zeP (code p.length) (zdd (by unfold In64; omega))
 simp only [List.length_append,zok]
 omega
noncomputable def CK8:=mkC [(118,putSp),(130,zgY)]
theorem zzW : zai Tryz.prog CK8:=zat (all_cons zj6 (all_cons zn2 all_nil))
@[simp] theorem CK8_1 : CK8 118 = putSp:=rfl
@[simp] theorem CK8_2 : CK8 130 = zgY:=rfl
noncomputable def zmn:=fam (fun i : JN × Nat × (List UInt8)=>[V.ptr 0 0 0,.sl i.2.1 1 (zae i.2.2)]) (fun i=>[rjO i.1]) (fun i=>(i.1.b.length ≤ 1000000000) ∧ (i.2.2.length ≤ 65536)) (fun i=>⟨.tup [],[rjO (putJ i.1 i.2.2)]⟩)
@[simp] theorem jrPutSp_eq {J : JN} {t : Nat} {p : List UInt8} (h1 : J.b.length ≤ 1000000000) (h2 : p.length ≤ 65536) : zmn ([V.ptr 0 0 0,.sl t 1 (zae p)]) ([rjO J]) = some (⟨.tup [],[rjO (putJ J p)]⟩) :=
 zag (by rintro ⟨a0,a1,a2⟩ ⟨b0,b1,b2⟩ h h' <;> simp at h h' <;> simp_all) (J,t,p) ⟨h1,h2⟩
theorem zse : Lift.Spec Tryz.prog 108 zmn:=by
 refine zad [] (C:=CK8) zac zzW follows Tryz.func108 (by kernel_rfl) rfl (by kernel_rfl) rfl ?_
 rintro ⟨J,t,p⟩ ⟨h1,h2⟩
 try simp only at h1 h2
 refine ⟨by simp,?_⟩
 intro r hr
 have hl:=zmx (key:=8) h2
 have h3 : J.b.length + (putB 8 [] p).length ≤ 140737488355328:=by omega
 have hp : p.length ≤ 9223372036854775807:=by omega
 have e:=zmy (t:=0) (b:=[]) (u:=t) (p:=p) (key:=8) (by simp) in8 (by simp) hp
 simp only [zf0] at e
 simp [e,h3,rowOf]
 (repeat refine dr ?_)
 rw [hr]
 refine retE [] [] [] [.inl 0] [] rfl ?_
 simp [putJ]
theorem enc3 {n : Int} (h : In64 n) : (enc (code n)).length ≤ 10:=zeP _ (zdd h)
theorem in2 : In64 2:=by unfold In64; omega
theorem in3 : In64 3:=by unfold In64; omega
noncomputable def CK9:=mkC [(109,intSp),(110,zfx),(129,zht),(107,zhr),(138,zhs),(108,zmn)]
theorem ztx : zai Tryz.prog CK9:=zat (all_cons zes (all_cons zmA (all_cons zlf (all_cons zlc (all_cons zle (all_cons zse all_nil))))))
@[simp] theorem CK9_1 : CK9 109 = intSp:=rfl
@[simp] theorem CK9_2 : CK9 110 = zfx:=rfl
@[simp] theorem CK9_3 : CK9 129 = zht:=rfl
@[simp] theorem CK9_4 : CK9 107 = zhr:=rfl
@[simp] theorem CK9_5 : CK9 138 = zhs:=rfl
@[simp] theorem CK9_6 : CK9 108 = zmn:=rfl
noncomputable def zaq (J : JN) (t v : Int) : JN:=if stE J t v = 0 then putJ (stJ J t v) (recA t v) else J
noncomputable def zaw (J : JN) (t : Int) (e : GEntry) : JN:=if adE J t e = 0 then putJ (adJ J t e) (recE t e) else J
noncomputable def cutJ (J : JN) (n : Int) : JN:=if cuE J n = 0 then putJ (cuJ J n) (recC n) else J
theorem stJ_b (J : JN) (t v : Int) : (stJ J t v).b = J.b:=by unfold stJ; split <;> rfl
theorem adJ_b (J : JN) (t : Int) (e : GEntry) : (adJ J t e).b = J.b:=by unfold adJ; split <;> rfl
theorem cuJ_b (J : JN) (n : Int) : (cuJ J n).b = J.b:=by unfold cuJ; split <;> rfl
noncomputable def zek:=fam (fun i : JN × Int × Int=>[V.ptr 0 0 0,.int .i64 i.2.1,.int .i64 i.2.2]) (fun i=>[rjO i.1]) (fun i=>(i.1.b.length ≤ 1000000000) ∧ (In64 i.2.1) ∧ (In64 i.2.2)) (fun i=>⟨.int .i64 (stE i.1 i.2.1 i.2.2),[rjO (zaq i.1 i.2.1 i.2.2)]⟩)
@[simp] theorem jrSetTermSp_eq {J : JN} {t v : Int} (h1 : J.b.length ≤ 1000000000) (h2 : In64 t) (h3 : In64 v) : zek ([V.ptr 0 0 0,.int .i64 t,.int .i64 v]) ([rjO J]) = some (⟨.int .i64 (stE J t v),[rjO (zaq J t v)]⟩) :=
 zag (by rintro ⟨a0,a1,a2⟩ ⟨b0,b1,b2⟩ h h' <;> simp at h h' <;> simp_all) (J,t,v) ⟨h1,h2,h3⟩
theorem zkG : Lift.Spec Tryz.prog 106 zek:=by
 refine zad [] (C:=CK9) zac ztx follows Tryz.func106 (by kernel_rfl) rfl (by kernel_rfl) rfl ?_
 rintro ⟨J,t,v⟩ ⟨h1,h2,h3⟩
 try simp only at h1 h2 h3
 refine ⟨by simp,?_⟩
 intro r hr
 by_cases h : stE J t v = 0
 ·have e1:=enc3 in1
  have e2:=enc3 h2
  have e3:=enc3 h3
  have i0:=zeU (t:=0) in1
  have i1 : ((enc (code 1)).length : Int) ≤ 140737488351222:=by omega
  have i2 : ((enc (code 1)).length : Int) + ((enc (code t)).length : Int) ≤ 140737488351222:=by omega
  have i3 : (enc (code 1)).length + ((enc (code t)).length + (enc (code v)).length) ≤ 65536:=by omega
  have i4 : (stJ J t v).b.length ≤ 1000000000:=by rw [stJ_b]; exact h1
  have it : List.take ((enc (code 1)).length + ((enc (code t)).length + (enc (code v)).length)) (enc (code 1) ++ (enc (code t) ++ enc (code v))) = enc (code 1) ++ (enc (code t) ++ enc (code v)):=List.take_of_length_le (by simp)
  simp [h,i0,i1,i2,i3,i4,h2,h3,it,rowOf,Nat.add_assoc]
  rw [hr]
  refine retC [] [] [] rfl ?_
  simp [h,zaq,recA]
  try rfl
 ·simp [h]
  rw [hr]
  refine retC [] [] [] rfl ?_
  simp [h,zaq,stJ]
noncomputable def zdo:=fam (fun i : JN × Int × GEntry=>[V.ptr 0 0 0,.int .i64 i.2.1,zaB i.2.2]) (fun i=>[rjO i.1]) (fun i=>(i.1.b.length ≤ 1000000000) ∧ (i.1.log.length ≤ 1000000000) ∧ (In64 i.2.1) ∧ (GEntry.ok i.2.2)) (fun i=>⟨.int .i64 (adE i.1 i.2.1 i.2.2),[rjO (zaw i.1 i.2.1 i.2.2)]⟩)
@[simp] theorem jrAppendSp_eq {J : JN} {t : Int} {e : GEntry} (h1 : J.b.length ≤ 1000000000) (h2 : J.log.length ≤ 1000000000) (h3 : In64 t) (h4 : GEntry.ok e) : zdo ([V.ptr 0 0 0,.int .i64 t,zaB e]) ([rjO J]) = some (⟨.int .i64 (adE J t e),[rjO (zaw J t e)]⟩) :=
 zag (by rintro ⟨a0,a1,a2⟩ ⟨b0,b1,b2⟩ h h' <;> simp at h h' <;> simp_all) (J,t,e) ⟨h1,h2,h3,h4⟩
theorem zgP : Lift.Spec Tryz.prog 83 zdo:=by
 refine zad [] (C:=CK9) zac ztx follows Tryz.func83 (by kernel_rfl) rfl (by kernel_rfl) rfl ?_
 rintro ⟨J,t,e⟩ ⟨h1,h0,h2,h3⟩
 try simp only at h1 h0 h2 h3
 refine ⟨by simp,?_⟩
 intro r hr
 by_cases h : adE J t e = 0
 ·have e1:=enc3 in2
  have e2:=enc3 h2
  have e3:=zfa h3
  have i0:=zeU (t:=0) in2
  have i1 : ((enc (code 2)).length : Int) ≤ 140737488351222:=by omega
  have i2 : ((enc (code 2)).length : Int) + (((enc (code t)).length : Int) + ((zbs e).length : Int)) ≤ 140737488355328:=by omega
  have i3 : (enc (code 2)).length + ((enc (code t)).length + (zbs e).length) ≤ 65536:=by omega
  have i4 : (adJ J t e).b.length ≤ 1000000000:=by rw [adJ_b]; exact h1
  have it : List.take ((enc (code 2)).length + ((enc (code t)).length + (zbs e).length)) (enc (code 2) ++ (enc (code t) ++ zbs e)) = enc (code 2) ++ (enc (code t) ++ zbs e):=List.take_of_length_le (by simp)
  simp [h,h0,i0,i1,i2,i3,i4,h2,h3,it,rowOf,GEntry.cells,zaE,Nat.add_assoc,Int.add_assoc]
  (repeat refine dr ?_)
  rw [hr]
  refine retC [] [] [] rfl ?_
  simp [h,zaw,recE]
  try rfl
 ·simp [h,h0,GEntry.cells,zaE]
  rw [hr]
  refine retC [] [] [] rfl ?_
  simp [h,zaw,adJ]
noncomputable def ziz:=fam (fun i : JN × Int=>[V.ptr 0 0 0,.int .i64 i.2]) (fun i=>[rjO i.1]) (fun i=>(i.1.b.length ≤ 1000000000) ∧ (i.1.log.length ≤ 1000000000) ∧ (In64 i.2)) (fun i=>⟨.int .i64 (cuE i.1 i.2),[rjO (cutJ i.1 i.2)]⟩)
@[simp] theorem jrCutASp_eq {J : JN} {n : Int} (h1 : J.b.length ≤ 1000000000) (h2 : J.log.length ≤ 1000000000) (h3 : In64 n) : ziz ([V.ptr 0 0 0,.int .i64 n]) ([rjO J]) = some (⟨.int .i64 (cuE J n),[rjO (cutJ J n)]⟩) :=
 zag (by rintro ⟨a0,a1⟩ ⟨b0,b1⟩ h h' <;> simp at h h' <;> simp_all) (J,n) ⟨h1,h2,h3⟩
theorem zpq : Lift.Spec Tryz.prog 123 ziz:=by
 refine zad [] (C:=CK9) zac ztx follows Tryz.func123 (by kernel_rfl) rfl (by kernel_rfl) rfl ?_
 rintro ⟨J,n⟩ ⟨h1,h0,h2⟩
 try simp only at h1 h0 h2
 refine ⟨by simp,?_⟩
 intro r hr
 by_cases h : cuE J n = 0
 ·have e1:=enc3 in3
  have e2:=enc3 h2
  have i0:=zeU (t:=0) in3
  have i1 : ((enc (code 3)).length : Int) ≤ 140737488351222:=by omega
  have i3 : (enc (code 3)).length + (enc (code n)).length ≤ 65536:=by omega
  have i4 : (cuJ J n).b.length ≤ 1000000000:=by rw [cuJ_b]; exact h1
  simp [h,h0,i0,i1,i3,i4,h2,rowOf]
  rw [hr]
  refine retC [] [] [] rfl ?_
  simp [h,cutJ,recC]
  try rfl
 ·simp [h,h0]
  rw [hr]
  refine retC [] [] [] rfl ?_
  simp [h,cutJ,cuJ]
end Go.Proofs.YtcpdgbncekdicaaGreat

namespace Go.Proofs.YtcpdgbncekdicaaGreat
open Go.Lift
noncomputable def recordJ (J : JN) (p : List UInt8) : JN × Bool :=
 if (takeT p).2.2 ≠ 0 then (J,false) else
 if (takeT (p.drop (takeT p).2.1.toNat)).2.2 ≠ 0 then (J,false) else
 if (takeT p).1 = 1 then
  (if (takeT (p.drop ((takeT p).2.1 + (takeT (p.drop (takeT p).2.1.toNat)).2.1).toNat)).2.2 = 0 ∧ (takeT p).2.1 + (takeT (p.drop (takeT p).2.1.toNat)).2.1 + (takeT (p.drop ((takeT p).2.1 + (takeT (p.drop (takeT p).2.1.toNat)).2.1).toNat)).2.1 = p.length then
   (stJ J (takeT (p.drop (takeT p).2.1.toNat)).1 (takeT (p.drop ((takeT p).2.1 + (takeT (p.drop (takeT p).2.1.toNat)).2.1).toNat)).1,decide (stE J (takeT (p.drop (takeT p).2.1.toNat)).1 (takeT (p.drop ((takeT p).2.1 + (takeT (p.drop (takeT p).2.1.toNat)).2.1).toNat)).1 = 0))
  else (J,false))
 else if (takeT p).1 = 2 then
  (if (readE (p.drop ((takeT p).2.1 + (takeT (p.drop (takeT p).2.1.toNat)).2.1).toNat)).2.2 = 0 ∧ (takeT p).2.1 + (takeT (p.drop (takeT p).2.1.toNat)).2.1 + (readE (p.drop ((takeT p).2.1 + (takeT (p.drop (takeT p).2.1.toNat)).2.1).toNat)).2.1 = p.length then
   (adJ J (takeT (p.drop (takeT p).2.1.toNat)).1 (readE (p.drop ((takeT p).2.1 + (takeT (p.drop (takeT p).2.1.toNat)).2.1).toNat)).1,decide (adE J (takeT (p.drop (takeT p).2.1.toNat)).1 (readE (p.drop ((takeT p).2.1 + (takeT (p.drop (takeT p).2.1.toNat)).2.1).toNat)).1 = 0))
  else (J,false))
 else if (takeT p).1 = 3 then
  (if (takeT p).2.1 + (takeT (p.drop (takeT p).2.1.toNat)).2.1 = p.length then (cuJ J (takeT (p.drop (takeT p).2.1.toNat)).1,decide (cuE J (takeT (p.drop (takeT p).2.1.toNat)).1 = 0)) else (J,false))
 else (J,false)
noncomputable def CKA:=mkC [(136,zdc),(137,zj2),(129,zht),(107,zhr),(138,zhs)]
theorem zzX : zai Tryz.prog CKA:=zat (all_cons zdK (all_cons zn9 (all_cons zlf (all_cons zlc (all_cons zle all_nil)))))
@[simp] theorem CKA_1 : CKA 136 = zdc:=rfl
@[simp] theorem CKA_2 : CKA 137 = zj2:=rfl
@[simp] theorem CKA_3 : CKA 129 = zht:=rfl
@[simp] theorem CKA_4 : CKA 107 = zhr:=rfl
@[simp] theorem CKA_5 : CKA 138 = zhs:=rfl
@[simp] theorem take_drop_all {α : Type} (l : List α) (n : Nat) : (l.drop n).take (l.length - n) = l.drop n:=List.take_of_length_le (by simp)
theorem zxG {l : List UInt8} {n k : Int} (h : takeT l = (n,k,0)) : ∃ q : Nat,k = q ∧ 1 ≤ q ∧ q ≤ l.length:=by
 obtain ⟨_,rest,h1,h2⟩:=zfH h
 refine ⟨_,h2,zhm _,?_⟩
 rw [h1]; simp
theorem zb2 (l : List UInt8) : (∃ e,¬ e = 0 ∧ takeT l = (0,0,e)) ∨ ∃ (n : Int) (q : Nat),takeT l = (n,(q : Int),0) ∧ 1 ≤ q ∧ q ≤ l.length:=by
 rcases zvy l with h | h | ⟨n,k,h⟩
 ·exact .inl ⟨17,by decide,h⟩
 ·exact .inl ⟨18,by decide,h⟩
 ·obtain ⟨q,rfl,h1,h2⟩:=zxG h
  exact .inr ⟨n,q,h,h1,h2⟩
noncomputable def zmo:=fam (fun i : JN × Nat × (List UInt8)=>[V.ptr 0 0 0,.sl i.2.1 1 (zae i.2.2)]) (fun i=>[rjO i.1]) (fun i=>(i.1.log.length ≤ 1000000000) ∧ (i.2.2.length ≤ 140737488355328)) (fun i=>⟨.bool (recordJ i.1 i.2.2).2,[rjO (recordJ i.1 i.2.2).1]⟩)
@[simp] theorem jrRecSp_eq {J : JN} {t : Nat} {p : List UInt8} (h1 : J.log.length ≤ 1000000000) (h2 : p.length ≤ 140737488355328) : zmo ([V.ptr 0 0 0,.sl t 1 (zae p)]) ([rjO J]) = some (⟨.bool (recordJ J p).2,[rjO (recordJ J p).1]⟩) :=
 zag (by rintro ⟨a0,a1,a2⟩ ⟨b0,b1,b2⟩ h h' <;> simp at h h' <;> simp_all) (J,t,p) ⟨h1,h2⟩
set_option maxHeartbeats 4000000 in
theorem zsf : Lift.Spec Tryz.prog 117 zmo:=by
 refine zad [] (C:=CKA) zac zzX follows Tryz.func117 (by kernel_rfl) rfl (by kernel_rfl) rfl ?_
 rintro ⟨J,t,p⟩ ⟨h0,hp⟩
 try simp only at h0 hp
 refine ⟨by simp,?_⟩
 intro r hr
 rcases zb2 p with ⟨e,he,hT⟩ | ⟨kind,q,hT,hq1,hq2⟩
 ·simp [takeV,hT,he]
  rw [hr]
  refine retC [] [] [] rfl ?_
  simp [recordJ,hT,he]
 rcases zb2 (p.drop q) with ⟨e,he,hT2⟩ | ⟨n,k,hT2,hk1,hk2⟩
 ·simp [takeV,hT,hT2,he,hq2]
  rw [hr]
  refine retC [] [] [] rfl ?_
  simp [recordJ,hT,hT2,he]
 rw [List.length_drop] at hk2
 have w1 : IntKind.i64.wrap ((q : Int) + k) = q + k:=w64
 have hs : (q : Int) + k ≤ p.length:=by omega
 have hs0 : (0 : Int) ≤ (q : Int) + k:=by omega
 have hN : ((q : Int) + (k : Int)).toNat = q + k:=by omega
 have wl : IntKind.i64.wrap (p.length : Int) = p.length:=w64
 by_cases k1 : kind = 1
 ·subst k1
  rcases zb2 (p.drop (q + k)) with ⟨e,he,hT3⟩ | ⟨v,m,hT3,hm1,hm2⟩
  ·simp [takeV,hT,hT2,hT3,he,hq2,w1,hs,hs0,hN]
   rw [hr]
   refine retC [] [] [] rfl ?_
   simp [recordJ,hT,hT2,hT3,he,hN]
  rw [List.length_drop] at hm2
  have w2 : IntKind.i64.wrap ((q : Int) + k + m) = q + k + m:=w64
  by_cases hl : (q : Int) + k + m = p.length
  ·simp [takeV,hT,hT2,hT3,hq2,w1,hs,hs0,hN,w2,hl,wl]
   rw [hr]
   refine retC [] [] [] rfl ?_
   simp [recordJ,hT,hT2,hT3,hN,hl]
  ·simp [takeV,hT,hT2,hT3,hq2,w1,hs,hs0,hN,w2,hl,wl]
   rw [hr]
   refine retC [] [] [] rfl ?_
   simp [recordJ,hT,hT2,hT3,hN,hl]
 by_cases k2 : kind = 2
 ·subst k2
  rcases hT3 : readE (p.drop (q + k)) with ⟨x,m,g⟩
  by_cases hg : g = 0
  ·subst hg
   obtain ⟨g1,g2,g3,_⟩:=zfw hT3
   rw [List.length_drop] at g3
   have hpl : ((p.drop (q + k)).length : Int) ≤ 140737488355328:=by rw [List.length_drop]; omega
   have w2 : IntKind.i64.wrap ((q : Int) + k + m) = q + k + m:=w64
   have hpi : ((p.length - (q + k) : Nat) : Int) ≤ 140737488355328:=by omega
   by_cases hl : (q : Int) + k + m = p.length
   ·simp [takeV,hT,hT2,zcS hT3,hq2,w1,hs,hs0,hN,w2,hl,wl,hpi,GEntry.cells,zaE,h0]
    rw [hr]
    refine retC [] [] [] rfl ?_
    simp [recordJ,hT,hT2,hT3,hN,hl]
   ·simp [takeV,hT,hT2,zcS hT3,hq2,w1,hs,hs0,hN,w2,hl,wl,hpi,GEntry.cells,zaE]
    rw [hr]
    refine retC [] [] [] rfl ?_
    simp [recordJ,hT,hT2,hT3,hN,hl]
  ·have hpi : ((p.length - (q + k) : Nat) : Int) ≤ 140737488355328:=by omega
   simp [takeV,hT,hT2,zcS hT3,hq2,w1,hs,hs0,hN,hg,hpi,GEntry.cells,zaE]
   rw [hr]
   refine retC [] [] [] rfl ?_
   simp [recordJ,hT,hT2,hT3,hN,hg]
 by_cases k3 : kind = 3
 ·subst k3
  by_cases hl : (q : Int) + k = p.length
  ·simp [takeV,hT,hT2,hq2,w1,hs,hs0,hN,hl,wl,h0]
   rw [hr]
   refine retC [] [] [] rfl ?_
   simp [recordJ,hT,hT2,hN,hl]
  ·simp [takeV,hT,hT2,hq2,w1,hs,hs0,hN,hl]
   rw [hr]
   refine retC [] [] [] rfl ?_
   simp [recordJ,hT,hT2,hN,hl]
 ·simp [takeV,hT,hT2,hq2,w1,hs,hs0,hN,k1,k2,k3]
  rw [hr]
  refine retC [] [] [] rfl ?_
  simp [recordJ,hT,hT2,hN,k1,k2,k3]
noncomputable def zbM : List (List UInt8) → JN → Nat → JN × Nat
 | [],J,n=>(J,n)
 | p :: ps,J,n=>if (recordJ J p).2 = true then zbM ps (recordJ J p).1 (n + (putB 8 [] p).length) else ((recordJ J p).1,n)
def zdO (b : List UInt8) (d n : Nat) : List UInt8 × Nat:=if b.length < n then (b,d) else (b.take n,min d n)
noncomputable def readJ (b : List UInt8) (d : Nat) : JN :=
 { (zbM (allT 8 b).1 ⟨b,d,0,-1,[]⟩ 0).1 with b:=(zdO b d (zbM (allT 8 b).1 ⟨b,d,0,-1,[]⟩ 0).2).1,d:=(zdO b d (zbM (allT 8 b).1 ⟨b,d,0,-1,[]⟩ 0).2).2 }
noncomputable def crashJ (J : JN) (keep : Int) : JN:=readJ (J.b.take (za9 J.b.length J.d keep)) (za9 J.b.length J.d keep)
theorem zh2 (J : JN) (p : List UInt8) : (recordJ J p).1.b = J.b ∧ (recordJ J p).1.d = J.d:=by
 unfold recordJ stJ adJ cuJ
 repeat' split
 all_goals exact ⟨rfl,rfl⟩
theorem zj3 (J : JN) (p : List UInt8) : (recordJ J p).1.log.length ≤ J.log.length + 1:=by
 unfold recordJ stJ adJ cuJ
 repeat' split
 all_goals simp <;> omega
theorem zq9 (p : List UInt8) : (putB 8 [] p).length ≤ 65600:=by
 by_cases h : p.length ≤ 65536
 ·exact zmx h
 ·unfold putB; rw [if_pos (by omega)]; simp
theorem zoz (key : Int) (b : List UInt8) : ∀ (m at_ : Nat) (acc : List (List UInt8)),b.length - at_ ≤ m → at_ ≤ b.length → acc.length ≤ at_ → (∀ p ∈ acc,p.length ≤ 65536) → (allAt key b at_ acc).1.length ≤ b.length ∧ ∀ p ∈ (allAt key b at_ acc).1,p.length ≤ 65536:=by
 intro m
 induction m with
 | zero =>
  intro at_ acc h1 h3 h2 hacc
  have e : at_ = b.length:=by omega
  rw [zdW h3 (e:=17) (by decide) (by rw [e,List.drop_length]; exact zpg key)]
  exact ⟨Nat.le_trans h2 h3,hacc⟩
 | succ m ih =>
  intro at_ acc h1 h3 h2 hacc
  rcases zl9 key (b.drop at_) with ⟨e,he,hT⟩ | ⟨p,n,hT,h9,hle,hpn⟩
  ·rw [zdW h3 he hT]; exact ⟨Nat.le_trans h2 h3,hacc⟩
  ·rw [List.length_drop] at hle
   rw [zig h3 (by omega) (by omega) hT]
   refine ih _ _ (by omega) (by omega) (by simp; omega) fun q hq=>?_
   rcases List.mem_append.1 hq with h | h
   ·exact hacc q h
   ·simp at h; subst h; exact hpn
theorem zru (key : Int) (b : List UInt8) : (allT key b).1.length ≤ b.length ∧ ∀ p ∈ (allT key b).1,p.length ≤ 65536:=by
 rw [zlJ]; exact zoz key b b.length 0 [] (by omega) (Nat.zero_le _) (Nat.le_refl _) (by simp)
noncomputable def CKB:=mkC [(115,ziE),(119,ziO),(116,allSp),(118,putSp),(117,zmo)]
theorem zzY : zai Tryz.prog CKB:=zat (all_cons zpJ (all_cons zpW (all_cons zn7 (all_cons zj6 (all_cons zsf all_nil)))))
@[simp] theorem CKB_1 : CKB 115 = ziE:=rfl
@[simp] theorem CKB_2 : CKB 119 = ziO:=rfl
@[simp] theorem CKB_3 : CKB 116 = allSp:=rfl
@[simp] theorem CKB_4 : CKB 118 = putSp:=rfl
@[simp] theorem CKB_5 : CKB 117 = zmo:=rfl
noncomputable def zgQ:=fam (fun i : JN × Int=>[V.ptr 0 0 0,.int .i64 i.2]) (fun i=>[rjO i.1]) (fun i=>(i.1.b.length ≤ 1000000000) ∧ (i.1.d ≤ i.1.b.length)) (fun i=>⟨.tup [],[rjO (crashJ i.1 i.2)]⟩)
@[simp] theorem jrCrashSp_eq {J : JN} {keep : Int} (h1 : J.b.length ≤ 1000000000) (h2 : J.d ≤ J.b.length) : zgQ ([V.ptr 0 0 0,.int .i64 keep]) ([rjO J]) = some (⟨.tup [],[rjO (crashJ J keep)]⟩) :=
 zag (by rintro ⟨a0,a1⟩ ⟨b0,b1⟩ h h' <;> simp at h h' <;> simp_all) (J,keep) ⟨h1,h2⟩
def jcSt (ls : List (List UInt8)) (i : Nat × JN × Nat) : St:=mkSt [(0,.ptr 0 0 0),(4,.own 1 0 ls.length),(6,.int .i64 i.2.2),(7,.int .i64 i.1)] [(0,rjO i.2.1),(1,recOf ls)] 2
set_option maxHeartbeats 4000000 in
theorem znL : Lift.Spec Tryz.prog 88 zgQ:=by
 refine zad [] (C:=CKB) zac zzY follows Tryz.func88 (by kernel_rfl) rfl (by kernel_rfl) rfl ?_
 rintro ⟨J,keep⟩ ⟨h1,h2⟩
 try simp only at h1 h2
 refine ⟨by simp,?_⟩
 intro r hr
 have c1 : J.b.length ≤ 140737488355328:=by omega
 obtain ⟨d,hd⟩ : ∃ d,d = za9 J.b.length J.d keep:=⟨_,rfl⟩
 obtain ⟨b,hb⟩ : ∃ b,b = J.b.take d:=⟨_,rfl⟩
 have hdl : d ≤ J.b.length:=by rw [hd]; unfold za9; omega
 have hbl : b.length = d:=by rw [hb,List.length_take]; omega
 have k6:=zpI (l:=J.b) (d:=J.d) (keep:=keep) c1 h2
 rw [← hd,← hb] at k6
 have c2 : b.length ≤ 40000000000000:=by omega
 have hall:=zwt (t:=2) (b:=b) (key:=8) (by simp) in8 c2
 obtain ⟨hn,hsm⟩:=zru 8 b
 have hres : crashJ J keep = readJ b d:=by rw [crashJ,← hd,← hb]
 rw [hres] at hr
 rcases hT : allT 8 b with ⟨ls,u⟩
 rw [hT] at hall hn hsm
 simp only at hn hsm
 have hend : ∀ (K : JN) (n : Nat),zbM ls ⟨b,d,0,-1,[]⟩ 0 = (K,n) → K.b = b → K.d = d → readJ b d = { K with b:=(zdO b d n).1,d:=(zdO b d n).2 }:=by
  intro K n h h1 h2
  unfold readJ
  rw [hT]
  simp only [h]
 simp [k6,hall,zeE,recOf]
 refine zal (jcSt ls) (fun i=>i.1 ≤ ls.length ∧ zbM (ls.drop i.1) i.2.1 i.2.2 = zbM ls ⟨b,d,0,-1,[]⟩ 0 ∧ i.2.1.b = b ∧ i.2.1.d = d ∧ i.2.1.log.length ≤ i.1 ∧ i.2.2 ≤ 65600 * i.1) (fun i=>ls.length - i.1) (0,⟨b,d,0,-1,[]⟩,0) ?_ ⟨Nat.zero_le _,rfl,rfl,rfl,Nat.le_refl _,Nat.zero_le _⟩ ?_
 ·refine (zoq _ 0 3 10).trans ((zfI [0] _).trans (zak [.inl 0,.inr 4] ?_ ?_ ?_ ?_)) <;> simp [recOf]
 ·rintro ⟨i,K,n⟩ ⟨hi,g1,g2,g3,g4,g5⟩
  simp only at hi g1 g2 g3 g4 g5
  have w5 : K.b.length ≤ 140737488355328:=by rw [g2]; omega
  have w6 : K.d ≤ K.b.length:=by rw [g2,g3]; omega
  by_cases hik : i < ls.length
  ·obtain ⟨p,hp,hp',hpm⟩:=zav hik
   have w4 : IntKind.i64.wrap ((i : Int) + 1) = (i : Int) + 1:=w64
   have hpl:=hsm p hpm
   have q1 : K.log.length ≤ 1000000000:=by omega
   have q2 : p.length ≤ 140737488355328:=by omega
   have q3 : p.length ≤ 9223372036854775807:=by omega
   have e:=zmy (t:=0) (b:=[]) (u:=2) (p:=p) (key:=8) (by simp) in8 (by simp) q3
   simp only [zf0] at e
   have hB:=zq9 p
   have w7 : IntKind.i64.wrap ((n : Int) + ((putB 8 [] p).length : Int)) = (n : Int) + ((putB 8 [] p).length : Int):=w64
   have hdrop : ls.drop i = p :: ls.drop (i + 1):=by rw [← hp']; exact (List.drop_eq_getElem_cons hik)
   rw [hdrop] at g1
   obtain ⟨r1,r2⟩:=zh2 K p
   have r3:=zj3 K p
   cases hrec : (recordJ K p).2 with
   | true =>
    simp [jcSt,recOf,hik,hp',q1,q2,hrec,e,rowOf,w7]
    refine Again.mk (i + 1,(recordJ K p).1,n + (putB 8 [] p).length) ⟨hik,?_,r1.trans g2,r2.trans g3,by simp only; omega,by simp only; omega⟩ (by simp only; omega) ?_
    ·rw [← g1,zbM,if_pos hrec]
    ·refine zak [.inl 0,.inr 4] ?_ ?_ ?_ ?_ <;> simp [recOf,w4]
   | false =>
    rw [zbM,if_neg (by rw [hrec]; decide)] at g1
    have hE:=hend _ _ g1.symm (r1.trans g2) (r2.trans g3)
    have v5 : (recordJ K p).1.b.length ≤ 140737488355328:=by rw [r1]; exact w5
    have v6 : (recordJ K p).1.d ≤ (recordJ K p).1.b.length:=by rw [r1,r2]; exact w6
    rw [hE] at hr
    by_cases ht : (recordJ K p).1.b.length < n
    ·have ht' : b.length < n:=by rw [← g2,← r1]; exact ht
     have ht2 : ((recordJ K p).1.b.length : Int) < (n : Int):=by omega
     simp [jcSt,recOf,hik,hp',q1,q2,hrec,v5,v6,zez,ht2]
     rw [hr]
     refine retC [] [.inl 0] [] rfl ?_
     simp [zdO,ht']
     first | exact ⟨r1.trans g2,r2.trans g3⟩ | (rw [r1.trans g2,r2.trans g3]; exact ⟨rfl,rfl⟩)
    ·have ht' : ¬ b.length < n:=by rw [← g2,← r1]; exact ht
     have ht2 : ¬ ((recordJ K p).1.b.length : Int) < (n : Int):=by omega
     simp [jcSt,recOf,hik,hp',q1,q2,hrec,v5,v6,zez,ht2]
     rw [hr]
     refine retC [] [.inl 0] [] rfl ?_
     simp [zdO,ht']
     first | exact ⟨r1.trans g2,r2.trans g3⟩ | (rw [r1.trans g2,r2.trans g3]; exact ⟨rfl,rfl⟩)
  ·have hi' : i = ls.length:=by omega
   subst hi'
   rw [List.drop_length,zbM] at g1
   have hE:=hend _ _ g1.symm g2 g3
   rw [hE] at hr
   by_cases ht : K.b.length < n
   ·have ht' : b.length < n:=by rw [← g2]; exact ht
    have ht2 : (K.b.length : Int) < (n : Int):=by omega
    simp [jcSt,recOf,w5,w6,zez,ht2]
    rw [hr]
    refine retC [] [.inl 0] [] rfl ?_
    simp [zdO,ht']
    first | exact ⟨g2,g3⟩ | (rw [g2,g3]; exact ⟨rfl,rfl⟩)
   ·have ht' : ¬ b.length < n:=by rw [← g2]; exact ht
    have ht2 : ¬ (K.b.length : Int) < (n : Int):=by omega
    simp [jcSt,recOf,w5,w6,zez,ht2]
    rw [hr]
    refine retC [] [.inl 0] [] rfl ?_
    simp [zdO,ht']
    first | exact ⟨g2,g3⟩ | (rw [g2,g3]; exact ⟨rfl,rfl⟩)
noncomputable def zjV:=fam (fun _ : Unit=>[]) (fun _=>[]) (fun _=>True) (fun _=>⟨.ptr 0 0 0,[rjO ⟨[],0,0,-1,[]⟩]⟩)
theorem zsc {u : Unit}  : zjV ([]) ([]) = some (⟨.ptr 0 0 0,[rjO ⟨[],0,0,-1,[]⟩]⟩) :=
 zag (by intro a b h h' <;> simp at h h' <;> simp_all) u trivial
@[simp] theorem jrNewSp_at : zjV [] [] = some ⟨.ptr 0 0 0,[rjO ⟨[],0,0,-1,[]⟩]⟩:=zsc (u:=())
noncomputable def CKC:=mkC [(60,zoa)]
theorem zzZ : zai Tryz.prog CKC:=zat (all_cons zvh all_nil)
@[simp] theorem CKC_1 : CKC 60 = zoa:=rfl
theorem zsd : Lift.Spec Tryz.prog 28 zjV:=by
 refine zaj (C:=CKC) zac zzZ follows Tryz.func28 (by kernel_rfl) rfl (by kernel_rfl) rfl ?_
 rintro u _
 try simp only at _
 refine ⟨by simp,?_⟩
 intro r hr
 simp
 rw [hr]
 refine Ret.weak (retC [] [.inr 0] [.inr 0] rfl ?_) (ztu (.inr 0) 3 10)
 simp
end Go.Proofs.YtcpdgbncekdicaaGreat

namespace Go.Proofs.YtcpdgbncekdicaaGreat
open Go.Lift
def setD (J : JN) (b : List UInt8) (d : Nat) : JN:={ J with b:=b,d:=d }
@[simp] theorem setD_b (J : JN) (b : List UInt8) (d : Nat) : (setD J b d).b = b:=rfl
@[simp] theorem setD_d (J : JN) (b : List UInt8) (d : Nat) : (setD J b d).d = d:=rfl
@[simp] theorem setD_term (J : JN) (b : List UInt8) (d : Nat) : (setD J b d).term = J.term:=rfl
@[simp] theorem setD_vote (J : JN) (b : List UInt8) (d : Nat) : (setD J b d).vote = J.vote:=rfl
@[simp] theorem zxA (J : JN) (b : List UInt8) (d : Nat) : (setD J b d).log = J.log:=rfl
@[simp] theorem zvq (J : JN) (b c : List UInt8) (d e : Nat) : setD (setD J b d) c e = setD J c e:=rfl
theorem zxE (J : JN) (b : List UInt8) (d : Nat) (t v : Int) : stJ (setD J b d) t v = setD (stJ J t v) b d:=by
 unfold stJ
 rw [show stE (setD J b d) t v = stE J t v from rfl]
 split <;> rfl
theorem zws (J : JN) (b : List UInt8) (d : Nat) (t : Int) (e : GEntry) : adJ (setD J b d) t e = setD (adJ J t e) b d:=by
 unfold adJ
 rw [show adE (setD J b d) t e = adE J t e from rfl]
 split <;> rfl
theorem zwP (J : JN) (b : List UInt8) (d : Nat) (n : Int) : cuJ (setD J b d) n = setD (cuJ J n) b d:=by
 unfold cuJ
 rw [show cuE (setD J b d) n = cuE J n from rfl]
 split <;> rfl
theorem ze0 (J : JN) (b : List UInt8) (d : Nat) (p : List UInt8) : recordJ (setD J b d) p = (setD (recordJ J p).1 b d,(recordJ J p).2):=by
 unfold recordJ
 rw [zxE,zws,zwP]
 repeat' split
 all_goals rfl
noncomputable def finR (rs : List (List UInt8)) (J : JN) : JN:=rs.foldl (fun J p=>(recordJ J p).1) J
noncomputable def AllR : List (List UInt8) → JN → Prop
 | [],_=>True
 | p :: ps,J=>(recordJ J p).2 = true ∧ AllR ps (recordJ J p).1
theorem zpf (a b : List (List UInt8)) (J : JN) : finR (a ++ b) J = finR b (finR a J):=by simp [finR]
theorem zw3 (p : List UInt8) (J : JN) : finR [p] J = (recordJ J p).1:=rfl
theorem zfX : ∀ (a b : List (List UInt8)) (J : JN),AllR (a ++ b) J ↔ AllR a J ∧ AllR b (finR a J)
 | [],b,J=>by simp [AllR,finR]
 | p :: a,b,J=>by
  have:=zfX a b (recordJ J p).1
  simp only [List.cons_append,AllR,this,and_assoc]
  rfl
theorem znz : ∀ (rs : List (List UInt8)) (J : JN) (b : List UInt8) (d : Nat),finR rs (setD J b d) = setD (finR rs J) b d
 | [],_,_,_=>rfl
 | p :: rs,J,b,d=>by
  show finR rs (recordJ (setD J b d) p).1 = _
  rw [ze0]
  exact znz rs _ b d
theorem zcc (p : List UInt8) (rs : List (List UInt8)) : zaG 8 (p :: rs) = frB 8 p ++ zaG 8 rs:=by simp [zaG]
theorem zhw {p : List UInt8} (h : p.length ≤ 65536) : putB 8 [] p = frB 8 p:=by unfold putB; rw [if_neg (by omega),List.nil_append]
theorem zj9 : ∀ (rs : List (List UInt8)) (J : JN) (n : Nat),(∀ p ∈ rs,p.length ≤ 65536) → AllR rs J → zbM rs J n = (finR rs J,n + (zaG 8 rs).length)
 | [],J,n,_,_=>by simp [zbM,finR,zaG]
 | p :: rs,J,n,hs,ha=>by
  rw [zbM,if_pos ha.1,zj9 rs _ _ (fun q hq=>hs q (List.mem_cons_of_mem _ hq)) ha.2,zhw (hs p (List.mem_cons_self ..)),zcc]
  simp [finR,Nat.add_assoc]
def zeroJ : JN:=⟨[],0,0,-1,[]⟩
theorem zmN : ∀ (rs : List (List UInt8)) (J : JN) (b : List UInt8) (d : Nat),AllR rs (setD J b d) ↔ AllR rs J
 | [],_,_,_=>Iff.rfl
 | p :: rs,J,b,d=>by
  simp only [AllR,ze0,zmN rs]
theorem zmO {rs : List (List UInt8)} {J : JN} (h : AllR rs J) (k : Nat) : AllR (rs.take k) J:=by
 have:=(List.take_append_drop k rs).symm
 rw [this,zfX] at h
 exact h.1
theorem zk5 : ∀ (rs : List (List UInt8)) (m : Nat),m ≤ (zaG 8 rs).length → (∀ p ∈ rs,p.length ≤ 65536) → ∃ k,k ≤ rs.length ∧ (zaG 8 (rs.take k)).length ≤ m ∧ (k < rs.length → m < (zaG 8 (rs.take (k + 1))).length) ∧
 ∃ rest e,¬ e = 0 ∧ (zaG 8 rs).take m = zaG 8 (rs.take k) ++ rest ∧ frT 8 rest = ([],0,e)
 | [],m,h,_=>by
  simp [zaG] at h
  subst h
  exact ⟨0,Nat.le_refl _,by simp [zaG],by simp,[],17,by decide,by simp [zaG],zpg 8⟩
 | p :: rs,m,h,hs=>by
  have hp:=hs p (List.mem_cons_self ..)
  by_cases hm : m < (frB 8 p).length
  ·refine ⟨0,Nat.zero_le _,by simp [zaG],fun _=>by simpa [zaG] using hm,(frB 8 p).take m,17,by decide,?_,zzf hp hm⟩
   rw [zcc,List.take_append_of_le_length (by omega)]
   simp [zaG]
  ·rw [zcc,List.length_append] at h
   obtain ⟨k,h1,h2,h3,rest,e,h4,h5,h6⟩:=zk5 rs (m - (frB 8 p).length) (by omega) (fun q hq=>hs q (List.mem_cons_of_mem _ hq))
   refine ⟨k + 1,by simp; omega,?_,fun hk=>?_,rest,e,h4,?_,h6⟩
   ·rw [List.take_succ_cons,zcc,List.length_append]; omega
   ·rw [List.take_succ_cons,zcc,List.length_append]
    have:=h3 (by simpa using hk)
    omega
   ·rw [List.take_succ_cons,zcc,zcc,List.take_append,List.take_of_length_le (by omega),h5,List.append_assoc]
structure Hist (J : JN) (rs : List (List UInt8)) (s : Nat) : Prop where
 small : ∀ p ∈ rs,p.length ≤ 65536
 all : AllR rs zeroJ
 eq : J = setD (finR rs zeroJ) (zaG 8 rs) (zaG 8 (rs.take s)).length
 le : s ≤ rs.length
theorem znB {rs : List (List UInt8)} {i j : Nat} (h : i ≤ j) : (zaG 8 (rs.take i)).length ≤ (zaG 8 (rs.take j)).length:=by
 have : rs.take j = rs.take i ++ (rs.take j).drop i:=by
  conv=>lhs; rw [← List.take_append_drop i (rs.take j)]
  rw [List.take_take,Nat.min_eq_left h]
 rw [this,zfP,List.length_append]; omega
theorem Hist.zero : Hist zeroJ [] 0:=⟨by simp,trivial,rfl,Nat.le_refl _⟩
theorem Hist.d_le {J : JN} {rs : List (List UInt8)} {s : Nat} (h : Hist J rs s) : J.d ≤ J.b.length:=by
 have:=znB (rs:=rs) h.le
 rw [List.take_length] at this
 rw [h.eq]; exact this
theorem Hist.crash {J : JN} {rs : List (List UInt8)} {s : Nat} (h : Hist J rs s) (keep : Int) : ∃ k,s ≤ k ∧ k ≤ rs.length ∧ Hist (crashJ J keep) (rs.take k) k:=by
 have hd:=h.d_le
 obtain ⟨m,hm⟩ : ∃ m,m = za9 J.b.length J.d keep:=⟨_,rfl⟩
 have m1 : J.d ≤ m:=by rw [hm]; unfold za9; omega
 have m2 : m ≤ J.b.length:=by rw [hm]; unfold za9; omega
 have eb : J.b = zaG 8 rs:=by rw [h.eq]; rfl
 have ed : J.d = (zaG 8 (rs.take s)).length:=by rw [h.eq]; rfl
 obtain ⟨k,h1,h2,h3,rest,e,h4,h5,h6⟩:=zk5 rs m (by rw [← eb]; exact m2) h.small
 have hsk : s ≤ k:=by
  apply Classical.byContradiction
  intro hlt
  have:=h3 (by have:=h.le; omega)
  have h7:=znB (rs:=rs) (show k + 1 ≤ s by omega)
  omega
 have hsm : ∀ p ∈ rs.take k,p.length ≤ 65536:=fun p hp=>h.small p (List.mem_of_mem_take hp)
 refine ⟨k,hsk,h1,⟨hsm,zmO h.all k,?_,by simp; omega⟩⟩
 have hall:=zoB (rest:=rest) in8 hsm h4 h6
 unfold crashJ readJ
 rw [← hm,eb,h5,hall]
 simp only
 have e0 : (⟨zaG 8 (rs.take k) ++ rest,m,0,-1,[]⟩ : JN) = setD zeroJ (zaG 8 (rs.take k) ++ rest) m:=rfl
 rw [e0,zj9 _ _ _ hsm ((zmN _ _ _ _).2 (zmO h.all k)),znz,Nat.zero_add]
 simp only [zdO,List.length_append,if_neg (show ¬ ((zaG 8 (rs.take k)).length + rest.length < (zaG 8 (rs.take k)).length) by omega),List.take_left']
 rw [List.take_take,Nat.min_self,Nat.min_eq_right h2]
 rfl
end Go.Proofs.YtcpdgbncekdicaaGreat

namespace Go.Proofs.YtcpdgbncekdicaaGreat
open Go.Lift
theorem zn4 {t v : Int} (h1 : In64 t) (h2 : In64 v) (J : JN) : recordJ J (recA t v) = (stJ J t v,decide (stE J t v = 0)):=by
 have e1 : takeT (recA t v) = (1,((enc (code 1)).length : Int),0):=by unfold recA; rw [List.append_assoc]; exact zcu in1 _
 have e2 : takeT ((recA t v).drop (enc (code 1)).length) = (t,((enc (code t)).length : Int),0):=by
  unfold recA; rw [List.append_assoc,List.drop_left]; exact zcu h1 _
 have e3 : takeT ((recA t v).drop ((enc (code 1)).length + (enc (code t)).length)) = (v,((enc (code v)).length : Int),0):=by
  unfold recA
  rw [← List.length_append,List.drop_left,← List.append_nil (enc (code v))]
  rw [zcu h2]; simp
 have e4 : ((recA t v).length : Int) = ((enc (code 1)).length : Int) + ((enc (code t)).length : Int) + ((enc (code v)).length : Int):=by
  unfold recA; simp only [List.length_append]; omega
 have k : (((enc (code 1)).length : Int) + ((enc (code t)).length : Int)).toNat = (enc (code 1)).length + (enc (code t)).length:=by omega
 unfold recordJ
 simp only [e1,Int.toNat_natCast,e2,k,e3,e4]
 simp
theorem zn5 {t : Int} {e : GEntry} (h1 : In64 t) (h2 : GEntry.ok e) (hs : zbj e = true) (J : JN) : recordJ J (recE t e) = (adJ J t e,decide (adE J t e = 0)):=by
 have e1 : takeT (recE t e) = (2,((enc (code 2)).length : Int),0):=by unfold recE; rw [List.append_assoc]; exact zcu in2 _
 have e2 : takeT ((recE t e).drop (enc (code 2)).length) = (t,((enc (code t)).length : Int),0):=by
  unfold recE; rw [List.append_assoc,List.drop_left]; exact zcu h1 _
 have e3 : readE ((recE t e).drop ((enc (code 2)).length + (enc (code t)).length)) = (e,((zbs e).length : Int),0):=by
  unfold recE
  rw [← List.length_append,List.drop_left,← List.append_nil (zbs e),zpK h2,if_pos hs]
  simp
 have e4 : ((recE t e).length : Int) = ((enc (code 2)).length : Int) + ((enc (code t)).length : Int) + ((zbs e).length : Int):=by
  unfold recE; simp only [List.length_append]; omega
 have k : (((enc (code 2)).length : Int) + ((enc (code t)).length : Int)).toNat = (enc (code 2)).length + (enc (code t)).length:=by omega
 unfold recordJ
 simp only [e1,Int.toNat_natCast,e2,k,e3,e4]
 simp
theorem zvd {n : Int} (h1 : In64 n) (J : JN) : recordJ J (recC n) = (cuJ J n,decide (cuE J n = 0)):=by
 have e1 : takeT (recC n) = (3,((enc (code 3)).length : Int),0):=by unfold recC; exact zcu in3 _
 have e2 : takeT ((recC n).drop (enc (code 3)).length) = (n,((enc (code n)).length : Int),0):=by
  unfold recC; rw [List.drop_left,← List.append_nil (enc (code n)),zcu h1]; simp
 have e4 : ((recC n).length : Int) = ((enc (code 3)).length : Int) + ((enc (code n)).length : Int):=by
  unfold recC; simp only [List.length_append]; omega
 unfold recordJ
 simp only [e1,Int.toNat_natCast,e2,e4]
 simp
theorem zxr {t v : Int} (h1 : In64 t) (h2 : In64 v) : (recA t v).length ≤ 30:=by
 have:=enc3 in1; have:=enc3 h1; have:=enc3 h2
 unfold recA; simp only [List.length_append]; omega
theorem zxu {t : Int} {e : GEntry} (h1 : In64 t) (h2 : GEntry.ok e) : (recE t e).length ≤ 110:=by
 have:=enc3 in2; have:=enc3 h1; have:=zfa h2
 unfold recE; simp only [List.length_append]; omega
theorem zxt {n : Int} (h1 : In64 n) : (recC n).length ≤ 20:=by
 have:=enc3 in3; have:=enc3 h1
 unfold recC; simp only [List.length_append]; omega
theorem Hist.put {J : JN} {rs : List (List UInt8)} {s : Nat} (h : Hist J rs s) {p : List UInt8} (hp : p.length ≤ 65536) (hr : (recordJ J p).2 = true) : Hist (putJ (recordJ J p).1 p) (rs ++ [p]) s:=by
 have he:=h.eq
 have hrec : recordJ J p = (setD (recordJ (finR rs zeroJ) p).1 J.b J.d,(recordJ (finR rs zeroJ) p).2):=by
  conv=>lhs; rw [he]
  rw [ze0,he]; rfl
 have eb : J.b = zaG 8 rs:=by rw [he]; rfl
 have ed : J.d = (zaG 8 (rs.take s)).length:=by rw [he]; rfl
 refine ⟨fun q hq=>?_,?_,?_,by simp; have:=h.le; omega⟩
 ·rcases List.mem_append.1 hq with h1 | h1
  ·exact h.small q h1
  ·simp at h1; subst h1; exact hp
 ·rw [zfX]
  refine ⟨h.all,?_,trivial⟩
  rw [hrec] at hr; exact hr
 ·rw [zpf,zw3,zfP,List.take_append_of_le_length h.le,hrec]
  have e1 : zaG 8 [p] = frB 8 p:=by simp [zaG]
  unfold putJ setD
  rw [e1,zhw hp,eb,ed]
theorem Hist.setTerm {J : JN} {rs : List (List UInt8)} {s : Nat} (h : Hist J rs s) {t v : Int} (h1 : In64 t) (h2 : In64 v) : Hist (zaq J t v) (if stE J t v = 0 then rs ++ [recA t v] else rs) s:=by
 unfold zaq
 split
 ·next h0 =>
  have hb:=zn4 h1 h2 J
  have:=h.put (p:=recA t v) (by have:=zxr h1 h2; omega) (by rw [hb]; simp [h0])
  rw [hb] at this; exact this
 ·exact h
theorem zm5 {J : JN} {t : Int} {e : GEntry} (h : adE J t e = 0) : zbj e = true:=by
 cases hs : zbj e with
 | true=>rfl
 | false=>unfold adE at h; rw [if_pos (.inr (.inr hs))] at h; omega
theorem Hist.append {J : JN} {rs : List (List UInt8)} {s : Nat} (h : Hist J rs s) {t : Int} {e : GEntry} (h1 : In64 t) (h2 : GEntry.ok e) : Hist (zaw J t e) (if adE J t e = 0 then rs ++ [recE t e] else rs) s:=by
 unfold zaw
 split
 ·next h0 =>
  have hb:=zn5 h1 h2 (zm5 h0) J
  have:=h.put (p:=recE t e) (by have:=zxu h1 h2; omega) (by rw [hb]; simp [h0])
  rw [hb] at this; exact this
 ·exact h
theorem Hist.cut {J : JN} {rs : List (List UInt8)} {s : Nat} (h : Hist J rs s) {n : Int} (h1 : In64 n) : Hist (cutJ J n) (if cuE J n = 0 then rs ++ [recC n] else rs) s:=by
 unfold cutJ
 split
 ·next h0 =>
  have hb:=zvd h1 J
  have:=h.put (p:=recC n) (by have:=zxt h1; omega) (by rw [hb]; simp [h0])
  rw [hb] at this; exact this
 ·exact h
def syncJ (J : JN) : JN:=setD J J.b J.b.length
theorem Hist.sync {J : JN} {rs : List (List UInt8)} {s : Nat} (h : Hist J rs s) : Hist (syncJ J) rs rs.length:=by
 refine ⟨h.small,h.all,?_,Nat.le_refl _⟩
 have eb : J.b = zaG 8 rs:=by rw [h.eq]; rfl
 unfold syncJ
 rw [List.take_length,eb]
 conv=>lhs; rw [h.eq,zvq]
theorem Hist.crash_synced {J : JN} {rs : List (List UInt8)} (h : Hist J rs rs.length) (keep : Int) : crashJ J keep = J:=by
 obtain ⟨k,h1,h2,hk⟩:=h.crash keep
 have : k = rs.length:=by omega
 subst this
 rw [List.take_length] at hk
 rw [hk.eq,h.eq]
theorem zqK : ∀ (es : List GEntry) (J : JN),1 ≤ J.term → J.term ≤ 1073741824 → (∀ x ∈ J.log,x.Term = J.term) → J.log.length + es.length ≤ 4096 → (∀ e ∈ es,GEntry.ok e ∧ zbj e = true) →
 AllR (es.map (recE J.term)) J ∧ finR (es.map (recE J.term)) J = { J with log:=J.log ++ es.map (fun e=>⟨J.term,e⟩) }
 | [],J,_,_,_,_,_=>by simp [AllR,finR]
 | e :: es,J,h1,h2,h3,h4,h5=>by
  have ⟨ho,hs⟩:=h5 e (List.mem_cons_self ..)
  simp only [List.length_cons] at h4
  have hl : lastT J.log ≤ J.term:=by
   unfold lastT logAt
   split
   ·next hc =>
    have : (J.log.length : Int) - 1 = ((J.log.length - 1 : Nat) : Int):=by omega
    rw [this,Int.toNat_natCast,List.getD_eq_getElem?_getD,List.getElem?_eq_getElem (by omega),Option.getD_some]
    rw [h3 _ (List.getElem_mem _)]; exact Int.le_refl _
   ·simp; omega
  have h0 : adE J J.term e = 0:=by
   unfold adE
   rw [if_neg (by rw [hs]; simp; omega),if_neg (by omega),if_neg (by omega)]
  have hb:=zn5 (show In64 J.term by unfold In64; omega) ho hs J
  have hadJ : adJ J J.term e = { J with log:=J.log ++ [⟨J.term,e⟩] }:=by unfold adJ; rw [if_pos h0]
  have ih:=zqK es (adJ J J.term e) (by rw [hadJ]; exact h1) (by rw [hadJ]; exact h2) (by rw [hadJ]; intro x hx; rcases List.mem_append.1 hx with h | h; exact h3 x h; simp at h; rw [h]) (by rw [hadJ]; simp; omega) (fun x hx=>h5 x (List.mem_cons_of_mem _ hx))
  have ht : (adJ J J.term e).term = J.term:=by rw [hadJ]
  rw [ht] at ih
  refine ⟨?_,?_⟩
  ·rw [List.map_cons]
   refine ⟨by rw [hb]; simp [h0],?_⟩
   rw [hb]; exact ih.1
  ·rw [List.map_cons]
   show finR _ (recordJ J (recE J.term e)).1 = _
   rw [hb,ih.2,hadJ]
   simp
end Go.Proofs.YtcpdgbncekdicaaGreat

namespace Go.Proofs.YtcpdgbncekdicaaGreat
open Go.Lift
theorem zuu {es : List GEntry} (h : ∀ e ∈ es,GEntry.ok e ∧ zbj e = true) (hl : es.length ≤ 4096) : finR (recA 1 0 :: es.map (recE 1)) zeroJ = ⟨[],0,1,0,es.map (fun e=>⟨1,e⟩)⟩ ∧ AllR (recA 1 0 :: es.map (recE 1)) zeroJ:=by
 have i1 : In64 1:=in1
 have i0 : In64 0:=by unfold In64; omega
 have hb:=zn4 i1 i0 zeroJ
 have hs0 : stE zeroJ 1 0 = 0:=by simp [stE,zeroJ]
 have hst : stJ zeroJ 1 0 = ⟨[],0,1,0,[]⟩:=by unfold stJ; rw [if_pos hs0]; rfl
 have g:=zqK es ⟨[],0,1,0,[]⟩ (by simp) (by simp) (by simp) (by simpa using hl) h
 refine ⟨?_,?_⟩
 ·show finR _ (recordJ zeroJ (recA 1 0)).1 = _
  rw [hb,hst,g.2]; simp
 ·refine ⟨by rw [hb]; simp [hs0],?_⟩
  rw [hb,hst]; exact g.1
theorem grown_zero : Hist (zaq zeroJ 1 0) [recA 1 0] 0:=by
 have:=Hist.zero.setTerm (t:=1) (v:=0) in1 (by unfold In64; omega)
 have hs0 : stE zeroJ 1 0 = 0:=by simp [stE,zeroJ]
 rw [if_pos hs0] at this
 exact this
structure Grown (J : JN) (es : List GEntry) (s : Nat) : Prop where
 hist : Hist J (recA 1 0 :: es.map (recE 1)) (s + 1)
 ok : ∀ e ∈ es,GEntry.ok e ∧ zbj e = true
theorem Grown.zero : Grown (syncJ (zaq zeroJ 1 0)) [] 0:=⟨by have:=grown_zero.sync; simpa using this,by simp⟩
theorem Grown.le {J : JN} {es : List GEntry} {s : Nat} (h : Grown J es s) : s ≤ es.length:=by have:=h.hist.le; simp at this; omega
theorem Grown.is {J : JN} {es : List GEntry} {s : Nat} (h : Grown J es s) (hl : es.length ≤ 4096) : J.term = 1 ∧ J.vote = 0 ∧ J.log = es.map (fun e=>⟨1,e⟩):=by
 have g:=(zuu h.ok hl).1
 have e:=h.hist.eq
 rw [g] at e
 rw [e]; exact ⟨rfl,rfl,rfl⟩
theorem Grown.sync {J : JN} {es : List GEntry} {s : Nat} (h : Grown J es s) : Grown (syncJ J) es es.length:=⟨by have:=h.hist.sync; simpa using this,h.ok⟩
theorem zuK {l : List GLogged} {t : Int} (h : ∀ x ∈ l,x.Term = t) (h0 : 0 ≤ t) : lastT l ≤ t:=by
 unfold lastT logAt
 split
 ·next hc =>
  have : (l.length : Int) - 1 = ((l.length - 1 : Nat) : Int):=by omega
  rw [this,Int.toNat_natCast,List.getD_eq_getElem?_getD,List.getElem?_eq_getElem (by omega),Option.getD_some]
  rw [h _ (List.getElem_mem _)]; exact Int.le_refl _
 ·exact h0
theorem Grown.adE {J : JN} {es : List GEntry} {s : Nat} (h : Grown J es s) (hl : es.length < 4096) {e : GEntry} (hs : zbj e = true) : adE J 1 e = 0:=by
 obtain ⟨h1,h2,h3⟩:=h.is (by omega)
 have:=zuK (l:=J.log) (t:=1) (by rw [h3]; intro x hx; obtain ⟨y,_,rfl⟩:=List.mem_map.1 hx; rfl) (by omega)
 unfold Go.Proofs.YtcpdgbncekdicaaGreat.adE
 rw [if_neg (by rw [hs]; simp),if_neg (by omega),if_neg (by rw [h3]; simp; omega)]
theorem Grown.append {J : JN} {es : List GEntry} {s : Nat} (h : Grown J es s) (hl : es.length < 4096) {e : GEntry} (ho : GEntry.ok e) (hs : zbj e = true) : Grown (zaw J 1 e) (es ++ [e]) s:=by
 have g:=h.hist.append in1 ho
 rw [if_pos (h.adE hl hs)] at g
 refine ⟨by simpa using g,fun x hx=>?_⟩
 rcases List.mem_append.1 hx with h1 | h1
 ·exact h.ok x h1
 ·simp at h1; subst h1; exact ⟨ho,hs⟩
theorem Grown.crash {J : JN} {es : List GEntry} {s : Nat} (h : Grown J es s) (hl : es.length ≤ 4096) (keep : Int) : ∃ k,s ≤ k ∧ k ≤ es.length ∧ Grown (crashJ J keep) (es.take k) k:=by
 obtain ⟨k,h1,h2,h3⟩:=h.hist.crash keep
 obtain ⟨m,rfl⟩ : ∃ m,k = m + 1:=⟨k - 1,by omega⟩
 refine ⟨m,by omega,by simpa using h2,⟨?_,fun e he=>h.ok e (List.mem_of_mem_take he)⟩⟩
 rw [List.take_succ_cons,← List.map_take] at h3
 exact h3
theorem zaR (J : JN) (t v : Int) : (zaq J t v).term = if stE J t v = 0 then t else J.term:=by
 unfold zaq
 by_cases h : stE J t v = 0
 ·rw [if_pos h,if_pos h]; unfold stJ; rw [if_pos h]; rfl
 ·rw [if_neg h,if_neg h]
theorem zcn (J : JN) (t v : Int) : (zaq J t v).vote = if stE J t v = 0 then v else J.vote:=by
 unfold zaq
 by_cases h : stE J t v = 0
 ·rw [if_pos h,if_pos h]; unfold stJ; rw [if_pos h]; rfl
 ·rw [if_neg h,if_neg h]
theorem zaQ (J : JN) (t v : Int) : (zaq J t v).log = J.log:=by
 unfold zaq
 by_cases h : stE J t v = 0
 ·rw [if_pos h]; unfold stJ; rw [if_pos h]; rfl
 ·rw [if_neg h]
theorem zvw {J : JN} {t v : Int} (h : stE J t v = 0) : 0 ≤ t ∧ t ≤ 1073741824 ∧ -1 ≤ v ∧ v < 5 ∧ J.term ≤ t ∧ (t = J.term → J.vote = -1 ∨ J.vote = v):=by
 unfold stE at h
 split at h
 ·omega
 ·split at h
  ·omega
  ·omega
structure NumJ (J : JN) : Prop where
 t0 : 0 ≤ J.term
 t1 : J.term ≤ 1073741824
 v0 : -1 ≤ J.vote
 v1 : J.vote < 5
theorem NumJ.zero : NumJ zeroJ:=⟨by simp [zeroJ],by simp [zeroJ],by simp [zeroJ],by simp [zeroJ]⟩
theorem NumJ.setTerm {J : JN} (h : NumJ J) (t v : Int) : NumJ (zaq J t v):=by
 by_cases h0 : stE J t v = 0
 ·have:=zvw h0
  refine ⟨?_,?_,?_,?_⟩ <;> simp only [zaR,zcn,if_pos h0] <;> omega
 ·refine ⟨?_,?_,?_,?_⟩ <;> simp only [zaR,zcn,if_neg h0]
  ·exact h.t0
  ·exact h.t1
  ·exact h.v0
  ·exact h.v1
structure OrdJ (J : JN) : Prop where
 low : ∀ x ∈ J.log,1 ≤ x.Term ∧ x.Term ≤ J.term ∧ zbj x.Entry = true
 asc : ∀ i,i + 1 < J.log.length → (logAt J.log i).Term ≤ (logAt J.log ((i : Int) + 1)).Term
theorem OrdJ.zero : OrdJ zeroJ:=⟨by simp [zeroJ],by simp [zeroJ]⟩
theorem OrdJ.setTerm {J : JN} (h : OrdJ J) (t v : Int) : OrdJ (zaq J t v):=by
 refine ⟨fun x hx=>?_,?_⟩
 ·rw [zaQ] at hx
  have:=h.low x hx
  rw [zaR]
  split
  ·next h0=>have:=zvw h0; exact ⟨by omega,by omega,this.2.2.2.2.2 |> fun _=>(h.low x hx).2.2⟩
  ·exact this
 ·rw [zaQ]; exact h.asc
theorem zjW {l : List GLogged} {x : GLogged} {i : Int} (h : i < l.length) : logAt (l ++ [x]) i = logAt l i:=by
 unfold logAt
 by_cases h0 : 0 ≤ i
 ·rw [if_pos ⟨h0,by simp; omega⟩,if_pos ⟨h0,h⟩,List.getD_eq_getElem?_getD,List.getD_eq_getElem?_getD,List.getElem?_append_left (by omega)]
 ·rw [if_neg (by omega),if_neg (by omega)]
theorem zsn {l : List GLogged} {x : GLogged} : logAt (l ++ [x]) l.length = x:=by
 unfold logAt
 rw [if_pos ⟨by omega,by simp; omega⟩,Int.toNat_natCast,List.getD_eq_getElem?_getD,List.getElem?_append_right (Nat.le_refl _)]
 simp
theorem zbz (J : JN) (t : Int) (e : GEntry) : (zaw J t e).term = J.term:=by
 unfold zaw adJ
 repeat' split
 all_goals rfl
theorem zdD (J : JN) (t : Int) (e : GEntry) : (zaw J t e).vote = J.vote:=by
 unfold zaw adJ
 repeat' split
 all_goals rfl
theorem za5 (J : JN) (t : Int) (e : GEntry) : (zaw J t e).log = if adE J t e = 0 then J.log ++ [⟨t,e⟩] else J.log:=by
 unfold zaw
 by_cases h : Go.Proofs.YtcpdgbncekdicaaGreat.adE J t e = 0
 ·rw [if_pos h,if_pos h]; unfold adJ; rw [if_pos h]; rfl
 ·rw [if_neg h,if_neg h]
theorem zyj {J : JN} {t : Int} {e : GEntry} (h : adE J t e = 0) : 1 ≤ t ∧ t ≤ J.term ∧ lastT J.log ≤ t ∧ J.log.length < 4096 ∧ zbj e = true:=by
 have hs:=zm5 h
 unfold adE at h
 rw [hs] at h
 split at h
 ·omega
 ·split at h
  ·omega
  ·split at h
   ·omega
   ·refine ⟨by simp at *; omega,by omega,by omega,by omega,hs⟩
theorem OrdJ.append {J : JN} (h : OrdJ J) (t : Int) (e : GEntry) : OrdJ (zaw J t e):=by
 by_cases h0 : adE J t e = 0
 ·obtain ⟨a1,a2,a3,a4,a5⟩:=zyj h0
  refine ⟨fun x hx=>?_,fun i hi=>?_⟩
  ·rw [za5,if_pos h0] at hx
   rw [zbz]
   rcases List.mem_append.1 hx with h1 | h1
   ·exact h.low x h1
   ·simp at h1; subst h1; exact ⟨a1,a2,a5⟩
  ·rw [za5,if_pos h0] at hi ⊢
   simp only [List.length_append,List.length_cons,List.length_nil] at hi
   by_cases hj : i + 1 < J.log.length
   ·rw [zjW (by omega),zjW (by omega)]; exact h.asc i hj
   ·have e1 : (i : Int) + 1 = (J.log.length : Int):=by omega
    rw [zjW (by omega),e1,zsn]
    have e2 : (i : Int) = (J.log.length : Int) - 1:=by omega
    rw [e2]; exact a3
 ·refine ⟨fun x hx=>?_,?_⟩
  ·rw [za5,if_neg h0] at hx; rw [zbz]; exact h.low x hx
  ·rw [za5,if_neg h0]; exact h.asc
end Go.Proofs.YtcpdgbncekdicaaGreat

namespace Go.Proofs.YtcpdgbncekdicaaGreat
open Go.Lift
section
variable (g : Nat → Option AObj)
@[simp] theorem startV_sl (a b : Nat) (r : List (List V)) : zcg g (.sl a b r) = []:=rfl
@[simp] theorem startV_int (k : IntKind) (n : Int) : zcg g (.int k n) = []:=rfl
@[simp] theorem startV_bool (b : Bool) : zcg g (.bool b) = []:=rfl
@[simp] theorem startV_str (b : ByteArray) : zcg g (.str b) = []:=rfl
@[simp] theorem startV_pnil : zcg g .pnil = []:=rfl
@[simp] theorem startV_pp (r : List V) : zcg g (.pp r) = []:=rfl
@[simp] theorem startV_fn (f : FuncId) : zcg g (.fn f) = []:=rfl
@[simp] theorem startV_clo (f : FuncId) (r : List V) : zcg g (.clo f r) = []:=rfl
@[simp] theorem startV_anyB : zcg g .anyB = []:=rfl
@[simp] theorem startN_sl (a b : Nat) (r : List (List V)) : zbC g (.sl a b r) = []:=rfl
@[simp] theorem startN_int (k : IntKind) (n : Int) : zbC g (.int k n) = []:=rfl
@[simp] theorem startN_bool (b : Bool) : zbC g (.bool b) = []:=rfl
@[simp] theorem startN_str (b : ByteArray) : zbC g (.str b) = []:=rfl
@[simp] theorem startN_pnil : zbC g .pnil = []:=rfl
@[simp] theorem startN_pp (r : List V) : zbC g (.pp r) = []:=rfl
@[simp] theorem startN_fn (f : FuncId) : zbC g (.fn f) = []:=rfl
@[simp] theorem startN_anyB : zbC g .anyB = []:=rfl
@[simp] theorem startN_ptr (a b c : Nat) : zbC g (.ptr a b c) = [a]:=rfl
@[simp] theorem startN_own (a b c : Nat) : zbC g (.own a b c) = zre a (g a):=zly g a b c
@[simp] theorem zsT (cs : List V) : zbC g (.agg cs) = cs.flatMap (zcg g):=rfl
theorem zc8 {v : V} (h : Folded v) : zbC g v = []:=by
 obtain ⟨cs,rfl,hc⟩:=h
 simp only [zsT,List.flatMap_eq_nil_iff]
 intro c hm
 obtain ⟨j,hj⟩:=List.getElem?_of_mem hm
 exact ze5 g c (V.closedAll_get hc j c hj)
@[simp] theorem vEntry_start (x : GEntry) : zbC g (zaB x) = []:=zc8 g (zbe x)
@[simp] theorem vLogged_start (x : GLogged) : zbC g (zaM x) = []:=zc8 g (zba x)
@[simp] theorem vMessage_start (x : GMessage) : zbC g (zam x) = []:=zc8 g (za3 x)
end
def jnO (J : JN) : AObj:=⟨99,4,[[.int .i64 J.term,.int .i64 J.vote,.tree true 56 10 (GLogged.row J.log) false 2,.tree false 115 2 [[.tree true 5 1 (zae J.b) false 2,.int .i64 J.d]] true 0]],true,0,.rw⟩
@[simp] theorem jnO_inj {J K : JN} : jnO J = jnO K ↔ J = K:=by
 constructor
 ·intro h
  obtain ⟨b,d,t,v,l⟩:=J
  obtain ⟨b',d',t',v',l'⟩:=K
  simp [jnO] at h
  simp [h]
  omega
 ·rintro rfl; rfl
@[simp] theorem jn_elems (J : JN) : (jnO J).elems = [[.int .i64 J.term,.int .i64 J.vote,.tree true 56 10 (GLogged.row J.log) false 2,.tree false 115 2 [[.tree true 5 1 (zae J.b) false 2,.int .i64 J.d]] true 0]]:=rfl
@[simp] theorem jn_et (J : JN) : (jnO J).et = 99:=rfl
@[simp] theorem jn_es (J : JN) : (jnO J).es = 4:=rfl
@[simp] theorem jn_tight (J : JN) : (jnO J).tight = true:=rfl
@[simp] theorem jn_md (J : JN) : (jnO J).md = .rw:=rfl
@[simp] theorem jn_fl (J : JN) : (jnO J).fl = 0:=rfl
@[simp] theorem jn_fold (b : List UInt8) (d : Nat) (t v : Int) (l : List GLogged) : (⟨99,4,[[.int .i64 t,.int .i64 v,.tree true 56 10 (GLogged.row l) false 2,.tree false 115 2 [[.tree true 5 1 (zae b) false 2,.int .i64 d]] true 0]],true,0,.rw⟩ : AObj) = jnO ⟨b,d,t,v,l⟩:=rfl
@[simp] theorem jn_foldn (b : List UInt8) (d : Nat) (t v : Int) : (⟨99,4,[[.int .i64 t,.int .i64 v,.tree true 56 10 [] false 2,.tree false 115 2 [[.tree true 5 1 (zae b) false 2,.int .i64 d]] true 0]],true,0,.rw⟩ : AObj) = jnO ⟨b,d,t,v,[]⟩:=rfl
@[simp] theorem jn_foldz (t v : Int) : (⟨99,4,[[.int .i64 t,.int .i64 v,.tree true 56 10 [] false 2,.tree false 115 2 [[.tree true 5 1 [] false 2,.int .i64 0]] true 0]],true,0,.rw⟩ : AObj) = jnO ⟨[],0,t,v,[]⟩:=rfl
@[simp] theorem jn_foldd (b : List UInt8) (d : Nat) (t v : Int) (l : List GLogged) : (⟨99,4,[[.int .i64 t,.int .i64 v,.tree true 56 10 (GLogged.row l) false 2,(diskO b d).toTree false]],true,0,.rw⟩ : AObj) = jnO ⟨b,d,t,v,l⟩:=rfl
@[simp] theorem zzh (J : JN) : nameless (jnO J) = true:=by simp [nameless]
@[simp] theorem jn_names (J : JN) (f : Nat → Nat) : (jnO J).ren f = jnO J:=AObj.ren_nl (zzh J)
@[simp] theorem jn_within (J : JN) (D : Nat → Bool) : (jnO J).within D = true:=by simp
@[simp] theorem jn_scalar (J : JN) : zbu (jnO J) = true:=by simp [zbu]
structure GRec where
 k : Int
 t : Int
 n : Int
 e : GEntry
def GRec.cells (r : GRec) : List V:=[.int .i64 r.k,.int .i64 r.t,.int .i64 r.n,.int .i64 r.e.Kind,.int .i64 r.e.Tick,.int .i64 r.e.Tenant,.int .i64 r.e.Cell,.int .i64 r.e.Other,.int .i64 r.e.Epoch,.int .i64 r.e.From,.int .i64 r.e.Until,.int .i64 r.e.N]
theorem GRec.cells_inj {x y : GRec} (h : x.cells = y.cells) : x = y:=by
 obtain ⟨_,_,_,⟨_,_,_,_,_,_,_,_,_⟩⟩:=x
 obtain ⟨_,_,_,⟨_,_,_,_,_,_,_,_,_⟩⟩:=y
 simp [GRec.cells] at h
 simp [h]
def vRec (x : GRec) : V:=.agg x.cells
theorem zbF (x : GRec) : Folded (vRec x):=⟨x.cells,rfl,by simp [GRec.cells,V.closed,V.closed.closedAll]⟩
@[simp] theorem vRec_eq {x y : GRec} : vRec x = vRec y ↔ x = y:=⟨fun h=>by simp only [vRec,V.agg.injEq] at h; exact GRec.cells_inj h,fun h=>by rw [h]⟩
@[simp] theorem vRec_closed (x : GRec) : (vRec x).closed = true:=(zbF x).closed
@[simp] theorem vRec_ren (x : GRec) (f : Nat → Nat) : (vRec x).ren f = vRec x:=(zbF x).ren f
@[simp] theorem vRec_within (x : GRec) (D : Nat → Bool) : (vRec x).within D = true:=(zbF x).within D
@[simp] theorem vRec_argV (x : GRec) (g : Nat → Option AObj) (refs : List Nat) : argV g refs (vRec x) = some (vRec x,[]):=(zbF x).argV refs
@[simp] theorem vRec_names (x : GRec) : zaU (vRec x) = []:=(zbF x).names
@[simp] theorem vRec_deep (x : GRec) (g : Nat → Option AObj) : argNm g (vRec x) = []:=(zbF x).deep
@[simp] theorem vRec_ptr (x : GRec) (r : List V) : za1 (vRec x :: r) = za1 r:=(zbF x).ptr r
@[simp] theorem vRec_junk (x : GRec) : (vRec x).isJunk = false:=(zbF x).junk
@[simp] theorem vRec_fz (x : GRec) (g : Nat → Option AObj) (F : List Nat) : fzV g F (vRec x) = vRec x:=(zbF x).fz F
@[simp] theorem vRec_tag (x : GRec) : tagV (vRec x) = vRec x:=by simp [vRec,GRec.cells]
@[simp high] theorem vRec_cells (x : GRec) : (vRec x).cells = x.cells:=rfl
@[simp] theorem vRec_scalar (x : GRec) : (vRec x).scalar = true:=rfl
@[simp] theorem vRec_mk (a0 a1 a2 a3 a4 a5 a6 a7 a8 a9 a10 a11 : Int) : V.agg [.int .i64 a0,.int .i64 a1,.int .i64 a2,.int .i64 a3,.int .i64 a4,.int .i64 a5,.int .i64 a6,.int .i64 a7,.int .i64 a8,.int .i64 a9,.int .i64 a10,.int .i64 a11] = vRec ⟨a0,a1,a2,⟨a3,a4,a5,a6,a7,a8,a9,a10,a11⟩⟩:=rfl
@[simp] theorem GEntry.eta (e : GEntry) : (⟨e.Kind,e.Tick,e.Tenant,e.Cell,e.Other,e.Epoch,e.From,e.Until,e.N⟩ : GEntry) = e:=rfl
@[simp] theorem GRec.eta (r : GRec) : (⟨r.k,r.t,r.n,r.e⟩ : GRec) = r:=rfl
@[simp] theorem vRec_start (g : Nat → Option AObj) (x : GRec) : zbC g (vRec x) = []:=zc8 g (zbF x)
def rcO (r : GRec) : AObj:=⟨120,12,[GRec.cells r],true,2,.rw⟩
@[simp] theorem rcO_inj {r s : GRec} : rcO r = rcO s ↔ r = s:=⟨fun h=>by simp only [rcO,AObj.mk.injEq,List.cons.injEq,true_and,and_true] at h; exact GRec.cells_inj h,fun h=>by rw [h]⟩
@[simp] theorem rc_elems (r : GRec) : (rcO r).elems = [GRec.cells r]:=rfl
@[simp] theorem rc_et (r : GRec) : (rcO r).et = 120:=rfl
@[simp] theorem rc_es (r : GRec) : (rcO r).es = 12:=rfl
@[simp] theorem rc_tight (r : GRec) : (rcO r).tight = true:=rfl
@[simp] theorem rc_md (r : GRec) : (rcO r).md = .rw:=rfl
@[simp] theorem rc_fl (r : GRec) : (rcO r).fl = 2:=rfl
@[simp] theorem rc_fold (a0 a1 a2 a3 a4 a5 a6 a7 a8 a9 a10 a11 : Int) : (⟨120,12,[[.int .i64 a0,.int .i64 a1,.int .i64 a2,.int .i64 a3,.int .i64 a4,.int .i64 a5,.int .i64 a6,.int .i64 a7,.int .i64 a8,.int .i64 a9,.int .i64 a10,.int .i64 a11]],true,2,.rw⟩ : AObj) = rcO ⟨a0,a1,a2,⟨a3,a4,a5,a6,a7,a8,a9,a10,a11⟩⟩:=rfl
@[simp] theorem zzp (r : GRec) : nameless (rcO r) = true:=rfl
@[simp] theorem rc_linked (r : GRec) (l : List Nat) : zbp l (rcO r) = true:=rfl
@[simp] theorem rc_names (r : GRec) (f : Nat → Nat) : (rcO r).ren f = rcO r:=AObj.ren_nl (zzp r)
@[simp] theorem rc_within (r : GRec) (D : Nat → Bool) : (rcO r).within D = true:=rfl
@[simp] theorem rc_scalar (r : GRec) : zbu (rcO r) = true:=rfl
def lgO (l : List GLogged) : AObj:=⟨56,10,GLogged.row l,false,2,.rw⟩
noncomputable def ziy:=fam (fun _ : JN=>[V.ptr 0 0 0]) (fun i=>[jnO i]) (fun i=>(i.b.length ≤ 4611686018427387904)) (fun i=>⟨.tup [],[jnO (syncJ i)]⟩)
@[simp] theorem jnSyncSp_eq {J : JN} (h1 : J.b.length ≤ 4611686018427387904) : ziy ([V.ptr 0 0 0]) ([jnO J]) = some (⟨.tup [],[jnO (syncJ J)]⟩) :=
 zag (by intro a b h h' <;> simp at h h' <;> simp_all) J h1
noncomputable def CKT1:=mkC [(101,zfd),(124,zc6),(147,zdl),(95,zfc),(113,zd0),(59,zjm)]
theorem zyw : zai Tryz.prog CKT1:=zat (all_cons zjl (all_cons zeN (all_cons zgA (all_cons zjk (all_cons zhP (all_cons znm all_nil))))))
@[simp] theorem CKT1_1 : CKT1 101 = zfd:=rfl
@[simp] theorem CKT1_2 : CKT1 124 = zc6:=rfl
@[simp] theorem CKT1_3 : CKT1 147 = zdl:=rfl
@[simp] theorem CKT1_4 : CKT1 95 = zfc:=rfl
@[simp] theorem CKT1_5 : CKT1 113 = zd0:=rfl
@[simp] theorem CKT1_6 : CKT1 59 = zjm:=rfl
theorem zpp : Lift.Spec Tryz.prog 66 ziy:=by
 refine zad [] (C:=CKT1) zac zyw follows Tryz.func66 (by kernel_rfl) rfl (by kernel_rfl) rfl ?_
 rintro J h1
 try simp only at h1
 refine ⟨by simp,?_⟩
 intro r hr
 simp [h1]
 rw [hr]
 refine retC [] [.inl 0] [] rfl ?_
 simp [syncJ]
noncomputable def zdA:=fam (fun _ : Unit=>[]) (fun _=>[]) (fun _=>True) (fun _=>⟨.agg [.int .i64 0,.int .i64 (-1),.sl 0 1 []],[]⟩)
theorem znT {u : Unit}  : zdA ([]) ([]) = some (⟨.agg [.int .i64 0,.int .i64 (-1),.sl 0 1 []],[]⟩) :=
 zag (by intro a b h h' <;> simp at h h' <;> simp_all) u trivial
@[simp] theorem nothingSp_at : zdA [] [] = some ⟨.agg [.int .i64 0,.int .i64 (-1),.sl 0 1 []],[]⟩:=znT (u:=())
theorem zh0 : Lift.Spec Tryz.prog 58 zdA:=by
 refine zaj (C:=C0) zac C0_ok follows Tryz.func58 (by kernel_rfl) rfl (by kernel_rfl) rfl ?_
 rintro u _
 try simp only at _
 refine ⟨by simp,?_⟩
 intro r hr
 simp
 ((repeat refine dr ?_); rw [hr]; refine zaa rfl ?_ rfl; simp)
noncomputable def CKT2:=mkC [(59,zjm),(58,zdA)]
theorem zyx : zai Tryz.prog CKT2:=zat (all_cons znm (all_cons zh0 all_nil))
@[simp] theorem CKT2_1 : CKT2 59 = zjm:=rfl
@[simp] theorem CKT2_2 : CKT2 58 = zdA:=rfl
noncomputable def zjS:=fam (fun _ : Unit=>[]) (fun _=>[]) (fun _=>True) (fun _=>⟨.ptr 0 0 0,[jnO zeroJ]⟩)
theorem zr7 {u : Unit}  : zjS ([]) ([]) = some (⟨.ptr 0 0 0,[jnO zeroJ]⟩) :=
 zag (by intro a b h h' <;> simp at h h' <;> simp_all) u trivial
@[simp] theorem jnNewSp_at : zjS [] [] = some ⟨.ptr 0 0 0,[jnO zeroJ]⟩:=zr7 (u:=())
theorem zr8 : Lift.Spec Tryz.prog 27 zjS:=by
 refine zaj (C:=CKT2) zac zyx follows Tryz.func27 (by kernel_rfl) rfl (by kernel_rfl) rfl ?_
 rintro u _
 try simp only at _
 refine ⟨by simp,?_⟩
 intro r hr
 simp
 rw [hr]
 refine retC [(.inr 0,2,56,10)] [.inr 0] [.inr 0] rfl ?_
 simp [zeroJ]
noncomputable def sclSp:=fam (fun i : Nat × (List GLogged)=>[V.sl i.1 10 (GLogged.row i.2)]) (fun _=>[]) (fun i=>(i.1 ≠ 0) ∧ (i.2.length ≤ 1000000000)) (fun i=>⟨.own 0 0 i.2.length,[lgO i.2]⟩)
@[simp] theorem sclSp_eq {t : Nat} {l : List GLogged} (h1 : t ≠ 0) (h2 : l.length ≤ 1000000000) : sclSp ([V.sl t 10 (GLogged.row l)]) ([]) = some (⟨.own 0 0 l.length,[lgO l]⟩) :=
 zag (by rintro ⟨a0,a1⟩ ⟨b0,b1⟩ h h' <;> simp at h h' <;> simp_all) (t,l) ⟨h1,h2⟩
theorem zxz : Lift.Spec Tryz.prog 96 sclSp:=by
 refine zaj (C:=C0) zac C0_ok follows Tryz.func96 (by kernel_rfl) rfl (by kernel_rfl) rfl ?_
 rintro ⟨t,l⟩ ⟨ht,hl⟩
 try simp only at ht hl
 refine ⟨by simp,?_⟩
 intro r hr
 have h3 : (l.length : Int) * 80 ≤ 140737488355328:=by omega
 have h4 : (l.length : Int) ≤ 140737488355328:=by omega
 by_cases hc : nnB t l.isEmpty = true
 ·simp [ht,hc,h3,h4]
  rw [hr]; refine zka rfl rfl ?_ (by simp [lgO])
  simp [lgO]
 ·have : l = []:=by cases l with | nil=>rfl | cons a l=>exact absurd (by simp) hc
  subst this
  simp at hc
  simp [ht,hc]
  rw [hr]
  refine ⟨?_,?_⟩
  ·refine Ret.weak (zbN [.inr 2] rfl ?_ ?_ (by simp) ?_ ?_ ?_ ?_) (zcw (sz:=1) 2 77 (lgO []) ?_ ?_ ?_) <;> simp [lgO]
  ·refine zka rfl rfl ?_ (by simp [lgO])
   simp [lgO]
noncomputable def CKT3:=mkC [(95,zfc),(96,sclSp)]
theorem zyy : zai Tryz.prog CKT3:=zat (all_cons zjk (all_cons zxz all_nil))
@[simp] theorem CKT3_1 : CKT3 95 = zfc:=rfl
@[simp] theorem CKT3_2 : CKT3 96 = sclSp:=rfl
noncomputable def zfp:=fam (fun _ : JN=>[V.ptr 0 0 0]) (fun i=>[jnO i]) (fun i=>(i.b.length ≤ 140737488355328) ∧ (i.log.length ≤ 1000000000)) (fun i=>⟨.ptr 1 0 0,[jnO i,jnO i]⟩)
@[simp] theorem jnCopySp_eq {J : JN} (h1 : J.b.length ≤ 140737488355328) (h2 : J.log.length ≤ 1000000000) : zfp ([V.ptr 0 0 0]) ([jnO J]) = some (⟨.ptr 1 0 0,[jnO J,jnO J]⟩) :=
 zag (by intro a b h h' <;> simp at h h' <;> simp_all) J ⟨h1,h2⟩
theorem zjR : Lift.Spec Tryz.prog 56 zfp:=by
 refine zad [(0,2),(0,3)] (C:=CKT3) zac zyy follows Tryz.func56 (by kernel_rfl) rfl (by kernel_rfl) rfl ?_
 rintro J ⟨h1,h2⟩
 try simp only at h1 h2
 refine ⟨by simp,?_⟩
 intro r hr
 simp [h1,h2,lgO]
 (repeat refine dr ?_)
 rw [hr]
 refine retC [] [.inl 0,.inr 2] [.inl 0,.inr 2] rfl ?_
 simp [lgO]
end Go.Proofs.YtcpdgbncekdicaaGreat

namespace Go.Proofs.YtcpdgbncekdicaaGreat
open Go.Lift
noncomputable def zmm:=fam (fun i : JN × Int × Int=>[V.ptr 0 0 0,.int .i64 i.2.1,.int .i64 i.2.2]) (fun i=>[jnO i.1]) (fun _=>True) (fun i=>⟨.int .i64 (stE i.1 i.2.1 i.2.2),[jnO (stJ i.1 i.2.1 i.2.2)]⟩)
@[simp] theorem jnSetSp_eq {J : JN} {t v : Int}  : zmm ([V.ptr 0 0 0,.int .i64 t,.int .i64 v]) ([jnO J]) = some (⟨.int .i64 (stE J t v),[jnO (stJ J t v)]⟩) :=
 zag (by rintro ⟨a0,a1,a2⟩ ⟨b0,b1,b2⟩ h h' <;> simp at h h' <;> simp_all) (J,t,v) trivial
theorem zsb : Lift.Spec Tryz.prog 144 zmm:=by
 refine zad [] (C:=C0) zac C0_ok follows Tryz.func144 (by kernel_rfl) rfl (by kernel_rfl) rfl ?_
 rintro ⟨J,t,v⟩ _
 refine ⟨by simp,?_⟩
 intro r hr
 by_cases h1 : t < 0
 ·have e : stE J t v = 1:=by unfold stE; (repeat' split) <;> omega
  simp [h1]
  rw [hr]
  refine retC [] [.inl 0] [] rfl ?_
  simp [e,stJ]
 by_cases h2 : 1073741824 < t
 ·have e : stE J t v = 1:=by unfold stE; (repeat' split) <;> omega
  simp [h1,h2]
  rw [hr]
  refine retC [] [.inl 0] [] rfl ?_
  simp [e,stJ]
 by_cases h3 : v < -1
 ·have e : stE J t v = 1:=by unfold stE; (repeat' split) <;> omega
  simp [h1,h2,h3]
  rw [hr]
  refine retC [] [.inl 0] [] rfl ?_
  simp [e,stJ]
 by_cases h4 : 5 ≤ v
 ·have e : stE J t v = 1:=by unfold stE; (repeat' split) <;> omega
  simp [h1,h2,h3,h4]
  rw [hr]
  refine retC [] [.inl 0] [] rfl ?_
  simp [e,stJ]
 by_cases h5 : t < J.term
 ·have e : stE J t v = 20:=by unfold stE; (repeat' split) <;> omega
  simp [h1,h2,h3,h4,h5]
  rw [hr]
  refine retC [] [.inl 0] [] rfl ?_
  simp [e,stJ]
 by_cases h6 : t = J.term
 ·by_cases h7 : J.vote = -1
  ·have e : stE J t v = 0:=by unfold stE; (repeat' split) <;> omega
   simp [h1,h2,h3,h4,h5,eq_true h6,h7]
   rw [hr]
   refine retC [] [.inl 0] [] rfl ?_
   simp [e,stJ]
  ·by_cases h8 : J.vote = v
   ·have e : stE J t v = 0:=by unfold stE; (repeat' split) <;> omega
    simp [h1,h2,h3,h4,h5,eq_true h6,eq_false h7,eq_true h8]
    rw [hr]
    refine retC [] [.inl 0] [] rfl ?_
    simp [e,stJ]
   ·have e : stE J t v = 20:=by unfold stE; (repeat' split) <;> omega
    simp [h1,h2,h3,h4,h5,eq_true h6,h7,h8]
    rw [hr]
    refine retC [] [.inl 0] [] rfl ?_
    simp [e,stJ]
 ·have e : stE J t v = 0:=by unfold stE; (repeat' split) <;> omega
  simp [h1,h2,h3,h4,h5,h6]
  rw [hr]
  refine retC [] [.inl 0] [] rfl ?_
  simp [e,stJ]
noncomputable def zhU:=fam (fun i : JN × Int=>[V.ptr 0 0 0,.int .i64 i.2]) (fun i=>[jnO i.1]) (fun _=>True) (fun i=>⟨.tup [zaM (logAt i.1.log i.2),.bool (hasAt i.1.log i.2)],[jnO i.1]⟩)
@[simp] theorem jnAtSp_eq {J : JN} {i : Int}  : zhU ([V.ptr 0 0 0,.int .i64 i]) ([jnO J]) = some (⟨.tup [zaM (logAt J.log i),.bool (hasAt J.log i)],[jnO J]⟩) :=
 zag (by rintro ⟨a0,a1⟩ ⟨b0,b1⟩ h h' <;> simp at h h' <;> simp_all) (J,i) trivial
theorem zjQ : Lift.Spec Tryz.prog 61 zhU:=by
 refine zad [] (C:=C0) zac C0_ok follows Tryz.func61 (by kernel_rfl) rfl (by kernel_rfl) rfl ?_
 rintro ⟨J,i⟩ _
 refine ⟨by simp,?_⟩
 intro r hr
 by_cases h1 : i < 0
 ·simp [h1]
  rw [hr]
  refine retC [] [.inl 0] [] rfl ?_
  have e : hasAt J.log i = false:=by simp [hasAt]; omega
  simp [h1,e,zaM,GLogged.cells]
 by_cases h2 : (J.log.length : Int) ≤ i
 ·simp [h1,h2]
  rw [hr]
  refine retC [] [.inl 0] [] rfl ?_
  have e : hasAt J.log i = false:=by simp [hasAt]; omega
  simp [h2,e,zaM,GLogged.cells]
 obtain ⟨k,rfl⟩:=Int.eq_ofNat_of_zero_le (show 0 ≤ i by omega)
 have hk : k < J.log.length:=by omega
 obtain ⟨x,hx,hx',_⟩:=zav hk
 have e : hasAt J.log k = true:=by simp [hasAt]; omega
 simp [h1,h2,hk,hx',GLogged.cells]
 rw [hr]
 refine retC [] [.inl 0] [] rfl ?_
 simp [e,zb1 hx,zaM,GLogged.cells]
noncomputable def CN5:=mkC [(61,zhU)]
theorem zz6 : zai Tryz.prog CN5:=zat (all_cons zjQ all_nil)
@[simp] theorem CN5_1 : CN5 61 = zhU:=rfl
noncomputable def zbi:=fam (fun i : JN × Int=>[V.ptr 0 0 0,.int .i64 i.2]) (fun i=>[jnO i.1]) (fun _=>True) (fun i=>⟨.int .i64 (logAt i.1.log i.2).Term,[jnO i.1]⟩)
@[simp] theorem jnTermAtSp_eq {J : JN} {i : Int}  : zbi ([V.ptr 0 0 0,.int .i64 i]) ([jnO J]) = some (⟨.int .i64 (logAt J.log i).Term,[jnO J]⟩) :=
 zag (by rintro ⟨a0,a1⟩ ⟨b0,b1⟩ h h' <;> simp at h h' <;> simp_all) (J,i) trivial
theorem zcj : Lift.Spec Tryz.prog 75 zbi:=by
 refine zad [] (C:=CN5) zac zz6 follows Tryz.func75 (by kernel_rfl) rfl (by kernel_rfl) rfl ?_
 rintro ⟨J,i⟩ _
 refine ⟨by simp,?_⟩
 intro r hr
 simp [GLogged.cells]
 rw [hr]
 refine retC [] [.inl 0] [] rfl ?_
 simp [GLogged.cells]
noncomputable def zmj:=fam (fun i : JN × Int=>[V.ptr 0 0 0,.int .i64 i.2]) (fun i=>[jnO i.1]) (fun i=>(i.1.log.length ≤ 1000000000)) (fun i=>⟨.int .i64 (cuE i.1 i.2),[jnO (cuJ i.1 i.2)]⟩)
@[simp] theorem jnCutSp_eq {J : JN} {n : Int} (h1 : J.log.length ≤ 1000000000) : zmj ([V.ptr 0 0 0,.int .i64 n]) ([jnO J]) = some (⟨.int .i64 (cuE J n),[jnO (cuJ J n)]⟩) :=
 zag (by rintro ⟨a0,a1⟩ ⟨b0,b1⟩ h h' <;> simp at h h' <;> simp_all) (J,n) h1
theorem zr6 : Lift.Spec Tryz.prog 146 zmj:=by
 refine zad [] (C:=C0) zac C0_ok follows Tryz.func146 (by kernel_rfl) rfl (by kernel_rfl) rfl ?_
 rintro ⟨J,n⟩ h0
 try simp only at h0
 refine ⟨by simp,?_⟩
 intro r hr
 by_cases h1 : n < 0
 ·simp [h1]
  rw [hr]
  refine retC [] [.inl 0] [] rfl ?_
  simp [cuE,cuJ,h1]
 by_cases h2 : (J.log.length : Int) < n
 ·simp [h1,h2]
  rw [hr]
  refine retC [] [.inl 0] [] rfl ?_
  simp [cuE,cuJ,h1,h2]
 obtain ⟨k,rfl⟩:=Int.eq_ofNat_of_zero_le (show 0 ≤ n by omega)
 have hk : k ≤ J.log.length:=by omega
 have h3 : min k J.log.length = k:=by omega
 have h4 : (k : Int) * 80 ≤ 140737488355328:=by omega
 have h5 : (k : Int) ≤ 140737488355328:=by omega
 simp [h1,h2,hk,h3,h4,h5]
 rw [hr]
 refine retC [] [.inl 0] [] rfl ?_
 simp [cuE,cuJ,h1,h2,h3,hk,List.take_take]
noncomputable def ziw:=fam (fun _ : JN=>[V.ptr 0 0 0]) (fun i=>[jnO i]) (fun i=>(i.log.length ≤ 1000000000)) (fun i=>⟨.int .i64 (lastT i.log),[jnO i]⟩)
@[simp] theorem jnLastSp_eq {J : JN} (h1 : J.log.length ≤ 1000000000) : ziw ([V.ptr 0 0 0]) ([jnO J]) = some (⟨.int .i64 (lastT J.log),[jnO J]⟩) :=
 zag (by intro a b h h' <;> simp at h h' <;> simp_all) J h1
theorem zpn : Lift.Spec Tryz.prog 175 ziw:=by
 refine zad [(0,2)] (C:=C0) zac C0_ok follows Tryz.func175 (by kernel_rfl) rfl (by kernel_rfl) rfl ?_
 rintro J h0
 try simp only at h0
 refine ⟨by simp,?_⟩
 intro r hr
 by_cases h1 : J.log.length = 0
 ·have e : lastT J.log = 0:=by unfold lastT; rw [zuL _ (by omega)]
  have h1':=eq_true (List.eq_nil_of_length_eq_zero h1)
  simp [h1']
  rw [hr]
  refine retC [] [.inl 0] [] rfl ?_
  simp [e]
 ·obtain ⟨k,hk⟩ : ∃ k,J.log.length = k + 1:=⟨J.log.length - 1,by omega⟩
  obtain ⟨x,hx,hx',_⟩:=zav (show k < J.log.length by omega)
  have w1 : IntKind.i64.wrap ((J.log.length : Int) - 1) = k:=by rw [w64]; omega
  have e : lastT J.log = x.Term:=by unfold lastT; rw [show (J.log.length : Int) - 1 = (k : Int) by omega,zb1 hx]
  have hlt : k < J.log.length:=by omega
  have h0' : ¬ (J.log = []):=fun h=>by rw [h] at hlt; simp at hlt
  simp [h0',w1,hlt,hx',GLogged.cells]
  (repeat refine dr ?_)
  rw [hr]
  refine retC [] [.inl 0] [] rfl ?_
  simp [e]
noncomputable def CN7:=mkC [(175,ziw),(104,zcz)]
theorem zz7 : zai Tryz.prog CN7:=zat (all_cons zpn (all_cons zhB all_nil))
@[simp] theorem CN7_1 : CN7 175 = ziw:=rfl
@[simp] theorem CN7_2 : CN7 104 = zcz:=rfl
noncomputable def zmh:=fam (fun i : JN × Int × GEntry=>[V.ptr 0 0 0,.int .i64 i.2.1,zaB i.2.2]) (fun i=>[jnO i.1]) (fun i=>(i.1.log.length ≤ 1000000000)) (fun i=>⟨.int .i64 (adE i.1 i.2.1 i.2.2),[jnO (adJ i.1 i.2.1 i.2.2)]⟩)
@[simp] theorem jnAddSp_eq {J : JN} {t : Int} {e : GEntry} (h1 : J.log.length ≤ 1000000000) : zmh ([V.ptr 0 0 0,.int .i64 t,zaB e]) ([jnO J]) = some (⟨.int .i64 (adE J t e),[jnO (adJ J t e)]⟩) :=
 zag (by rintro ⟨a0,a1,a2⟩ ⟨b0,b1,b2⟩ h h' <;> simp at h h' <;> simp_all) (J,t,e) h1
theorem zr5 : Lift.Spec Tryz.prog 145 zmh:=by
 refine zad [] (C:=CN7) zac zz7 follows Tryz.func145 (by kernel_rfl) rfl (by kernel_rfl) rfl ?_
 rintro ⟨J,t,e⟩ h0
 try simp only at h0
 refine ⟨by simp,?_⟩
 intro r hr
 have h9 : J.log.length ≤ 4611686018427387904:=by omega
 by_cases h1 : t < 1
 ·have c : adE J t e = 1:=by unfold adE; rw [if_pos (.inl h1)]
  simp [h1,h9,GEntry.cells]
  rw [hr]
  refine retC [] [.inl 0] [] rfl ?_
  simp [c,adJ]
 by_cases h2 : 1073741824 < t
 ·have c : adE J t e = 1:=by unfold adE; rw [if_pos (.inr (.inl h2))]
  simp [h1,h2,h9,GEntry.cells]
  rw [hr]
  refine retC [] [.inl 0] [] rfl ?_
  simp [c,adJ]
 cases h3 : zbj e with
 | false =>
  have c : adE J t e = 1:=by unfold adE; rw [if_pos (.inr (.inr h3))]
  simp [h1,h2,h3,h9,GEntry.cells,zaE]
  rw [hr]
  refine retC [] [.inl 0] [] rfl ?_
  simp [c,adJ]
 | true =>
  have hn : ¬ (t < 1 ∨ 1073741824 < t ∨ zbj e = false):=by rw [h3]; simp; omega
  by_cases h4 : J.term < t
  ·have c : adE J t e = 20:=by unfold adE; rw [if_neg hn,if_pos (.inl h4)]
   simp [h1,h2,h3,h4,h9,h0,GEntry.cells,zaE]
   rw [hr]
   refine retC [] [.inl 0] [] rfl ?_
   simp [c,adJ]
  by_cases h5 : t < lastT J.log
  ·have c : adE J t e = 20:=by unfold adE; rw [if_neg hn,if_pos (.inr h5)]
   simp [h1,h2,h3,h4,h5,h9,h0,GEntry.cells,zaE]
   rw [hr]
   refine retC [] [.inl 0] [] rfl ?_
   simp [c,adJ]
  have hn2 : ¬ (J.term < t ∨ t < lastT J.log):=by omega
  by_cases h6 : (4096 : Int) ≤ (J.log.length : Int)
  ·have c : adE J t e = 2:=by unfold adE; rw [if_neg hn,if_neg hn2,if_pos (by omega)]
   simp [h1,h2,h3,h4,h5,h6,h9,h0,GEntry.cells,zaE]
   rw [hr]
   refine retC [] [.inl 0] [] rfl ?_
   simp [c,adJ]
  ·have c : adE J t e = 0:=by unfold adE; rw [if_neg hn,if_neg hn2,if_neg (by omega)]
   have k1 : (J.log.length : Int) * 80 ≤ 140737488355328:=by omega
   have k2 : (J.log.length : Int) ≤ 140737488355328:=by omega
   have k3 : ((J.log.length : Int) + 1) * 80 ≤ 140737488355328:=by omega
   have k4 : (J.log.length : Int) + 1 ≤ 140737488355328:=by omega
   simp [h1,h2,h3,h4,h5,h6,h9,h0,k1,k2,k3,k4,GEntry.cells,zaE,GLogged.cells]
   have hrow : [[V.int .i64 t,.int .i64 e.Kind,.int .i64 e.Tick,.int .i64 e.Tenant,.int .i64 e.Cell,.int .i64 e.Other,.int .i64 e.Epoch,.int .i64 e.From,.int .i64 e.Until,.int .i64 e.N]] = GLogged.row [⟨t,e⟩]:=rfl
   (repeat refine dr ?_)
   rw [hr]
   refine retC [] [.inl 0] [] rfl ?_
   have ht : (J.log ++ [(⟨t,e⟩ : GLogged)]).take (J.log.length + 1) = J.log ++ [⟨t,e⟩]:=List.take_of_length_le (by simp)
   simp [c,adJ,hrow,ht]
end Go.Proofs.YtcpdgbncekdicaaGreat

namespace Go.Proofs.YtcpdgbncekdicaaGreat
open Go.Lift
def apE (J : JN) (r : GRec) : Int:=if r.k = 1 then stE J r.t r.n else if r.k = 2 then adE J r.t r.e else if r.k = 3 then cuE J r.n else 18
def apJ (J : JN) (r : GRec) : JN:=if r.k = 1 then stJ J r.t r.n else if r.k = 2 then adJ J r.t r.e else if r.k = 3 then cuJ J r.n else J
theorem apJ_b (J : JN) (r : GRec) : (apJ J r).b = J.b:=by
 unfold apJ
 split
 ·exact stJ_b _ _ _
 split
 ·exact adJ_b _ _ _
 split
 ·exact cuJ_b _ _
 ·rfl
noncomputable def CLA:=mkC [(144,zmm),(145,zmh),(146,zmj)]
theorem zz0 : zai Tryz.prog CLA:=zat (all_cons zsb (all_cons zr5 (all_cons zr6 all_nil)))
@[simp] theorem CLA_1 : CLA 144 = zmm:=rfl
@[simp] theorem CLA_2 : CLA 145 = zmh:=rfl
@[simp] theorem CLA_3 : CLA 146 = zmj:=rfl
noncomputable def zd3:=fam (fun i : JN × GRec=>[V.ptr 0 0 0,vRec i.2]) (fun i=>[jnO i.1]) (fun i=>(i.2.k = 1 ∨ i.1.log.length ≤ 1000000000)) (fun i=>⟨.int .i64 (apE i.1 i.2),[jnO (apJ i.1 i.2)]⟩)
@[simp] theorem jnApplySp_eq {J : JN} {r : GRec} (h1 : r.k = 1 ∨ J.log.length ≤ 1000000000) : zd3 ([V.ptr 0 0 0,vRec r]) ([jnO J]) = some (⟨.int .i64 (apE J r),[jnO (apJ J r)]⟩) :=
 zag (by rintro ⟨a0,a1⟩ ⟨b0,b1⟩ h h' <;> simp at h h' <;> simp_all) (J,r) h1
theorem zhT : Lift.Spec Tryz.prog 126 zd3:=by
 refine zad [] (C:=CLA) zac zz0 follows Tryz.func126 (by kernel_rfl) rfl (by kernel_rfl) rfl ?_
 rintro ⟨J,x⟩ h0
 try simp only at h0
 refine ⟨by simp,?_⟩
 intro r hr
 by_cases k1 : x.k = 1
 ·simp [k1,GRec.cells,GEntry.cells]
  rw [hr]
  refine retC [] [.inl 0] [] rfl ?_
  simp [apE,apJ,k1]
 replace h0:=h0.resolve_left k1
 by_cases k2 : x.k = 2
 ·simp [k2,h0,GRec.cells,GEntry.cells]
  rw [hr]
  refine retC [] [.inl 0] [] rfl ?_
  simp [apE,apJ,k2]
 by_cases k3 : x.k = 3
 ·simp [k3,h0,GRec.cells,GEntry.cells]
  rw [hr]
  refine retC [] [.inl 0] [] rfl ?_
  simp [apE,apJ,k3]
 ·simp [k1,k2,k3,GRec.cells,GEntry.cells]
  rw [hr]
  refine retC [] [.inl 0] [] rfl ?_
  simp [apE,apJ,k1,k2,k3]
noncomputable def recB (r : GRec) : List UInt8 :=
 if r.k = 1 then enc (code 1) ++ (enc (code r.t) ++ enc (code r.n)) else if r.k = 2 then enc (code 2) ++ (enc (code r.t) ++ zbs r.e) else if r.k = 3 then enc (code 3) ++ enc (code r.n) else enc (code r.k)
theorem zAr {J : JN} {r : GRec} (h : ¬ apE J r = 0) : apJ J r = J:=by
 unfold apE at h
 unfold apJ
 (repeat' split at h) <;> simp_all [stJ,adJ,cuJ]
structure GRec.ok (r : GRec) : Prop where
 k : In64 r.k
 t : In64 r.t
 n : In64 r.n
 e : GEntry.ok r.e
theorem zxs {r : GRec} (h : r.ok) : (recB r).length ≤ 65536:=by
 have e0:=enc3 h.k
 have e1:=enc3 h.t
 have e2:=enc3 h.n
 have e3:=zfa h.e
 have f1:=enc3 in1
 have f2:=enc3 in2
 have f3:=enc3 in3
 unfold recB
 (repeat' split) <;> (try simp only [List.length_append]) <;> omega
noncomputable def CLB:=mkC [(177,intSp),(179,zih)]
theorem zz1 : zai Tryz.prog CLB:=zat (all_cons ziu (all_cons zoJ all_nil))
@[simp] theorem CLB_1 : CLB 177 = intSp:=rfl
@[simp] theorem CLB_2 : CLB 179 = zih:=rfl
noncomputable def zrb:=fam (fun i : GRec=>[vRec i]) (fun _=>[]) (fun i=>(GRec.ok i)) (fun i=>⟨.own 0 0 (recB i).length,[rowOf (recB i)]⟩)
@[simp] theorem recbSp_eq {r : GRec} (h1 : GRec.ok r) : zrb ([vRec r]) ([]) = some (⟨.own 0 0 (recB r).length,[rowOf (recB r)]⟩) :=
 zag (by intro a b h h' <;> simp at h h' <;> simp_all) r h1
theorem zve : Lift.Spec Tryz.prog 149 zrb:=by
 refine zaj (C:=CLB) zac zz1 follows Tryz.func149 (by kernel_rfl) rfl (by kernel_rfl) rfl ?_
 rintro x h0
 try simp only at h0
 refine ⟨by simp,?_⟩
 intro r hr
 have hk:=h0.k
 have ht:=h0.t
 have hn:=h0.n
 have he:=h0.e
 have e0:=enc3 hk
 have e1:=enc3 ht
 have e2:=enc3 hn
 have e3:=zfa he
 have i0:=zeU (t:=0) hk
 have i1 : ((enc (code x.k)).length : Int) ≤ 140737488351222:=by omega
 by_cases k1 : x.k = 1
 ·have i2 : ((enc (code x.k)).length : Int) + ((enc (code x.t)).length : Int) ≤ 140737488351222:=by omega
  rw [k1] at i0 i1 i2 hk
  have it : List.take ((enc (code 1)).length + ((enc (code x.t)).length + (enc (code x.n)).length)) (enc (code 1) ++ (enc (code x.t) ++ enc (code x.n))) = enc (code 1) ++ (enc (code x.t) ++ enc (code x.n)):=List.take_of_length_le (by simp)
  simp [k1,i0,i1,i2,hk,ht,hn,rowOf,GRec.cells,GEntry.cells]
  (repeat refine dr ?_)
  rw [hr]
  refine retC [] [] [.inr 2] rfl ?_
  simp [recB,k1,rowOf,it,Nat.add_assoc]
 by_cases k2 : x.k = 2
 ·have i2 : ((enc (code x.k)).length : Int) + (((enc (code x.t)).length : Int) + ((zbs x.e).length : Int)) ≤ 140737488355328:=by omega
  rw [k2] at i0 i1 i2 hk
  have it : List.take ((enc (code 2)).length + ((enc (code x.t)).length + (zbs x.e).length)) (enc (code 2) ++ (enc (code x.t) ++ zbs x.e)) = enc (code 2) ++ (enc (code x.t) ++ zbs x.e):=List.take_of_length_le (by simp)
  simp [k2,i0,i1,i2,hk,ht,he,rowOf,GRec.cells,GEntry.cells,Nat.add_assoc,Int.add_assoc]
  (repeat refine dr ?_)
  rw [hr]
  refine retC [] [] [.inr 2] rfl ?_
  simp [recB,k2,rowOf,it,Nat.add_assoc]
 by_cases k3 : x.k = 3
 ·rw [k3] at i0 i1 hk
  simp [k3,i0,i1,hk,hn,rowOf,GRec.cells,GEntry.cells]
  rw [hr]
  refine retC [] [] [.inr 2] rfl ?_
  simp [recB,k3,rowOf]
 ·simp [k1,k2,k3,i0,i1,rowOf,GRec.cells,GEntry.cells]
  rw [hr]
  refine retC [] [] [.inr 2] rfl ?_
  simp [recB,k1,k2,k3,rowOf]
noncomputable def CLC:=mkC [(149,zrb),(148,putSp),(147,zdl)]
theorem zz2 : zai Tryz.prog CLC:=zat (all_cons zve (all_cons zxp (all_cons zgA all_nil)))
@[simp] theorem CLC_1 : CLC 149 = zrb:=rfl
@[simp] theorem CLC_2 : CLC 148 = putSp:=rfl
@[simp] theorem CLC_3 : CLC 147 = zdl:=rfl
noncomputable def zmk:=fam (fun i : (List UInt8) × Nat × GRec=>[V.agg [V.ptr 0 0 0],vRec i.2.2]) (fun i=>[diskO i.1 i.2.1]) (fun i=>(i.1.length ≤ 1000000000) ∧ (GRec.ok i.2.2)) (fun i=>⟨.tup [],[diskO (i.1 ++ putB 8 [] (recB i.2.2)) i.2.1]⟩)
@[simp] theorem jnPutSp_eq {l : List UInt8} {d : Nat} {r : GRec} (h1 : l.length ≤ 1000000000) (h2 : GRec.ok r) : zmk ([V.agg [V.ptr 0 0 0],vRec r]) ([diskO l d]) = some (⟨.tup [],[diskO (l ++ putB 8 [] (recB r)) d]⟩) :=
 zag (by rintro ⟨a0,a1,a2⟩ ⟨b0,b1,b2⟩ h h' <;> simp at h h' <;> simp_all) (l,d,r) ⟨h1,h2⟩
theorem zr9 : Lift.Spec Tryz.prog 127 zmk:=by
 refine zad [] (C:=CLC) zac zz2 follows Tryz.func127 (by kernel_rfl) rfl (by kernel_rfl) rfl ?_
 rintro ⟨l,d,x⟩ ⟨h1,h2⟩
 try simp only at h1 h2
 refine ⟨by simp,?_⟩
 intro r hr
 have h2':=zxs h2
 have hl:=zmx (key:=8) h2'
 have h3 : l.length + (putB 8 [] (recB x)).length ≤ 140737488355328:=by omega
 have hp : (recB x).length ≤ 9223372036854775807:=by omega
 have e:=zmy (t:=0) (b:=[]) (u:=2) (p:=recB x) (key:=8) (by simp) in8 (by simp) hp
 simp only [zf0] at e
 simp [e,h2,h3,rowOf,GRec.cells,GEntry.cells]
 (repeat refine dr ?_)
 rw [hr]
 refine retE [] [] [] [] [.inl 0] rfl ?_
 simp
noncomputable def wrJ (J : JN) (r : GRec) : JN:=if apE J r = 0 then putJ (apJ J r) (recB r) else J
noncomputable def CLD:=mkC [(126,zd3),(127,zmk)]
theorem zz3 : zai Tryz.prog CLD:=zat (all_cons zhT (all_cons zr9 all_nil))
@[simp] theorem CLD_1 : CLD 126 = zd3:=rfl
@[simp] theorem CLD_2 : CLD 127 = zmk:=rfl
noncomputable def zgO:=fam (fun i : JN × GRec=>[V.ptr 0 0 0,vRec i.2]) (fun i=>[jnO i.1]) (fun i=>(i.1.b.length ≤ 1000000000) ∧ (i.2.k = 1 ∨ i.1.log.length ≤ 1000000000) ∧ (GRec.ok i.2)) (fun i=>⟨.int .i64 (apE i.1 i.2),[jnO (wrJ i.1 i.2)]⟩)
@[simp] theorem jnWriteSp_eq {J : JN} {r : GRec} (h1 : J.b.length ≤ 1000000000) (h2 : r.k = 1 ∨ J.log.length ≤ 1000000000) (h3 : GRec.ok r) : zgO ([V.ptr 0 0 0,vRec r]) ([jnO J]) = some (⟨.int .i64 (apE J r),[jnO (wrJ J r)]⟩) :=
 zag (by rintro ⟨a0,a1⟩ ⟨b0,b1⟩ h h' <;> simp at h h' <;> simp_all) (J,r) ⟨h1,h2,h3⟩
theorem znI : Lift.Spec Tryz.prog 100 zgO:=by
 refine zad [] (C:=CLD) zac zz3 follows Tryz.func100 (by kernel_rfl) rfl (by kernel_rfl) rfl ?_
 rintro ⟨J,x⟩ ⟨h1,h0,h2⟩
 try simp only at h1 h0 h2
 refine ⟨by simp,?_⟩
 intro r hr
 have i4 : (apJ J x).b.length ≤ 1000000000:=by rw [apJ_b]; exact h1
 by_cases h : apE J x = 0
 ·simp [h0,h,h2,i4,GRec.cells,GEntry.cells]
  (repeat refine dr ?_)
  rw [hr]
  refine retC [] [.inl 0] [] rfl ?_
  simp [h,wrJ,putJ]
 ·simp [h0,h,GRec.cells,GEntry.cells]
  (repeat refine dr ?_)
  rw [hr]
  refine retC [] [.inl 0] [] rfl ?_
  simp [h,wrJ,zAr h]
end Go.Proofs.YtcpdgbncekdicaaGreat

