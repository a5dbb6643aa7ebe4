/-
  Texts: KM, KN, KO, KC, KD, KE, KF, KG, KH, E7, Q1, Q2, Q3, Q4, Q6, Q7, Q8, Q9, Q5, QA, QB, QC, QD, QE, QG, QH, QI, QJ, QK, QL, QM, R0, R1, R2.
-/
import Derived.Test.YtcpdgbncekdicaaGreatV4
set_option linter.unusedSimpArgs false
set_option linter.unusedVariables false
namespace Go.Proofs.YtcpdgbncekdicaaGreat
open Go.Lift
def ptO (offs : List Nat) : AObj:=⟨184,1,offs.map (fun o=>[V.ptr 1 0 o]),true,0,.rw⟩
@[simp] theorem pt_elems (l : List Nat) : (ptO l).elems = l.map (fun o=>[V.ptr 1 0 o]):=rfl
@[simp] theorem pt_et (l : List Nat) : (ptO l).et = 184:=rfl
@[simp] theorem pt_es (l : List Nat) : (ptO l).es = 1:=rfl
@[simp] theorem pt_tight (l : List Nat) : (ptO l).tight = true:=rfl
@[simp] theorem pt_md (l : List Nat) : (ptO l).md = .rw:=rfl
@[simp] theorem pt_fl (l : List Nat) : (ptO l).fl = 0:=rfl
theorem zzn {l m : List Nat} (h : ptO l = ptO m) : l = m:=by
 simp only [ptO,AObj.mk.injEq,true_and,and_true] at h
 induction l generalizing m with
 | nil=>cases m with
  | nil=>rfl
  | cons a m=>simp at h
 | cons a l ih=>cases m with
  | nil=>simp at h
  | cons b m =>
   simp only [List.map_cons,List.cons.injEq,V.ptr.injEq,and_true,true_and] at h
   rw [h.1,ih h.2]
@[simp] theorem ptO_eq {l m : List Nat} : ptO l = ptO m ↔ l = m:=⟨zzn,fun h=>by rw [h]⟩
theorem zzo (f : Nat → Nat) : (V.ren.renAll f ∘ fun o : Nat=>[V.ptr 1 0 o]) = fun o=>[V.ptr (f 1) 0 o]:=rfl
attribute [simp] zzo
theorem pt_fz (g : Nat → Option AObj) (F : List Nat) : ((fun x : List V=>List.map (fzV g F) x) ∘ fun o : Nat=>[V.ptr 1 0 o]) = fun o=>[V.ptr 1 0 o]:=rfl
attribute [simp] pt_fz
theorem zng {l : List Nat} (h : l ≠ []) : zaL (l.map fun o=>[V.ptr 1 0 o]) = false:=by
 cases l with
 | nil=>exact absurd rfl h
 | cons a l=>rfl
theorem zlG {n : Nat} (h : n < 2) : n = 0 ∨ n = 1:=by omega
def setF (o : Nat) (v : Int) (r : GRec) : GRec:=if o = 0 then { r with k:=v } else if o = 1 then { r with t:=v } else { r with n:=v }
noncomputable def tkiGo : List Nat → List UInt8 → GRec → Bool × List UInt8 × GRec
 | [],b,r=>(true,b,r)
 | o :: os,b,r=>if (takeT b).2.2 = 0 then tkiGo os (b.drop (takeT b).2.1.toNat) (setF o (takeT b).1 r) else (false,[],r)
noncomputable def zdg (t : Nat) (offs : List Nat) (b : List UInt8) (r : GRec) : CRes :=
 ⟨.tup [if (tkiGo offs b r).1 = true then .sl t 1 (zae (tkiGo offs b r).2.1) else .sl 0 1 [],.bool (tkiGo offs b r).1],[ptO offs,rcO (tkiGo offs b r).2.2]⟩
theorem zoT (t : Nat) : zdx t true = t:=by unfold zdx; split <;> simp_all
attribute [simp] zoT
def OffOk (l : List Nat) : Prop:=∀ o ∈ l,o ≤ 2
noncomputable def tkiSp:=fam (fun i : Nat × (List Nat) × (List UInt8) × GRec=>[V.sl i.1 1 (zae i.2.2.1),.own 0 0 i.2.1.length]) (fun i=>[ptO i.2.1,rcO i.2.2.2]) (fun i=>(OffOk i.2.1) ∧ (i.2.1 ≠ []) ∧ (i.2.1.length ≤ 2)) (fun i=>zdg i.1 i.2.1 i.2.2.1 i.2.2.2)
@[simp] theorem ziR {t : Nat} {offs : List Nat} {b : List UInt8} {r : GRec} (h1 : OffOk offs) (h2 : offs ≠ []) (h3 : offs.length ≤ 2) : tkiSp ([V.sl t 1 (zae b),.own 0 0 offs.length]) ([ptO offs,rcO r]) = some (zdg t offs b r) :=
 zag (by rintro ⟨a0,a1,a2,a3⟩ ⟨b0,b1,b2,b3⟩ h h' <;> simp at h h' <;> simp_all) (t,offs,b,r) ⟨h1,h2,h3⟩
noncomputable def CMA:=mkC [(183,zdc)]
theorem zz4 : zai Tryz.prog CMA:=zat (all_cons zko all_nil)
@[simp] theorem CMA_1 : CMA 183 = zdc:=rfl
noncomputable def tkiSt (t : Nat) (offs : List Nat) (i : Nat × List UInt8 × GRec) : St:=mkSt [(0,.sl t 1 (zae i.2.1)),(11,.own 0 0 offs.length),(12,.int .i64 offs.length),(13,.int .i64 i.1)] [(0,ptO offs),(1,rcO i.2.2)] 2
set_option maxHeartbeats 4000000 in
theorem zxI : Lift.Spec Tryz.prog 186 tkiSp:=by
 refine zad [] (C:=CMA) zac zz4 follows Tryz.func186 (by kernel_rfl) rfl (by kernel_rfl) rfl ?_
 rintro ⟨t,offs,b,x⟩ ⟨h1,hne,h2⟩
 try simp only at h1 hne h2
 refine ⟨by simp,?_⟩
 intro r hr
 simp
 refine zal (tkiSt t offs) (fun i=>i.1 ≤ offs.length ∧ tkiGo (offs.drop i.1) i.2.1 i.2.2 = tkiGo offs b x) (fun i=>offs.length - i.1) (0,b,x) ?_ ⟨Nat.zero_le _,rfl⟩ ?_
 ·refine zak [.inl 0,.inl 1] ?_ ?_ ?_ ?_ <;> first | (simp; done) | (intro n hn; rcases zlG hn with rfl | rfl <;> simp) | (simp [zaK,ptO]; done)
 ·rintro ⟨i,c,y⟩ ⟨hi,g1⟩
  simp only at hi g1
  by_cases hik : i < offs.length
  ·obtain ⟨o,ho,ho',hom⟩:=zav hik
   have w4 : IntKind.i64.wrap ((i : Int) + 1) = (i : Int) + 1:=w64
   have hdrop : offs.drop i = o :: offs.drop (i + 1):=by rw [← ho']; exact (List.drop_eq_getElem_cons hik)
   rw [hdrop,tkiGo] at g1
   have hol:=h1 o hom
   rcases zb2 c with ⟨e,he,hT⟩ | ⟨n,q,hT,hq1,hq2⟩
   ·rw [hT,if_neg he] at g1
    simp [tkiSt,hik,ho',hT,he,takeV]
    rw [hr]
    refine retE [] [] [] [] [.inl 0,.inl 1] rfl ?_
    simp [zdg,← g1,zaK]
    exact ⟨zng hne,fun j hj=>by rcases zlG hj with rfl | rfl <;> simp⟩
   ·rw [hT,if_pos rfl] at g1
    simp only [Int.toNat_natCast] at g1
    have : o = 0 ∨ o = 1 ∨ o = 2:=by omega
    rcases this with rfl | rfl | rfl
    ·simp [tkiSt,hik,ho',hT,takeV,hq2,GRec.cells]
     refine Again.mk (i + 1,c.drop q,setF 0 n y) ⟨hik,g1⟩ (by simp only; omega) ?_
     refine zak [.inl 0,.inl 1] ?_ ?_ ?_ ?_ <;> first | (simp [w4,setF]; done) | (intro n hn; rcases zlG hn with rfl | rfl <;> simp) | (simp [zaK,ptO,setF]; done)
    ·simp [tkiSt,hik,ho',hT,takeV,hq2,GRec.cells]
     refine Again.mk (i + 1,c.drop q,setF 1 n y) ⟨hik,g1⟩ (by simp only; omega) ?_
     refine zak [.inl 0,.inl 1] ?_ ?_ ?_ ?_ <;> first | (simp [w4,setF]; done) | (intro n hn; rcases zlG hn with rfl | rfl <;> simp) | (simp [zaK,ptO,setF]; done)
    ·simp [tkiSt,hik,ho',hT,takeV,hq2,GRec.cells]
     refine Again.mk (i + 1,c.drop q,setF 2 n y) ⟨hik,g1⟩ (by simp only; omega) ?_
     refine zak [.inl 0,.inl 1] ?_ ?_ ?_ ?_ <;> first | (simp [w4,setF]; done) | (intro n hn; rcases zlG hn with rfl | rfl <;> simp) | (simp [zaK,ptO,setF]; done)
  ·have hi' : i = offs.length:=by omega
   subst hi'
   rw [List.drop_length,tkiGo] at g1
   simp [tkiSt]
   rw [hr]
   refine retE [] [] [] [] [.inl 0,.inl 1] rfl ?_
   simp [zdg,← g1,zaK]
   exact ⟨zng hne,fun j hj=>by rcases zlG hj with rfl | rfl <;> simp⟩
theorem off0 : OffOk [0]:=fun o h=>by simp at h; omega
theorem off1 : OffOk [1]:=fun o h=>by simp at h; omega
theorem off2 : OffOk [2]:=fun o h=>by simp at h; omega
theorem off12 : OffOk [1,2]:=fun o h=>by simp at h; omega
@[simp] theorem tki_0 (t : Nat) (b : List UInt8) (r : GRec) : tkiSp [V.sl t 1 (zae b),.own 0 0 1] [⟨184,1,[[V.ptr 1 0 0]],true,0,.rw⟩,rcO r] = some (zdg t [0] b r):=ziR (offs:=[0]) off0 (by simp) (by simp)
@[simp] theorem tki_1 (t : Nat) (b : List UInt8) (r : GRec) : tkiSp [V.sl t 1 (zae b),.own 0 0 1] [⟨184,1,[[V.ptr 1 0 1]],true,0,.rw⟩,rcO r] = some (zdg t [1] b r):=ziR (offs:=[1]) off1 (by simp) (by simp)
@[simp] theorem tki_2 (t : Nat) (b : List UInt8) (r : GRec) : tkiSp [V.sl t 1 (zae b),.own 0 0 1] [⟨184,1,[[V.ptr 1 0 2]],true,0,.rw⟩,rcO r] = some (zdg t [2] b r):=ziR (offs:=[2]) off2 (by simp) (by simp)
@[simp] theorem tki_12 (t : Nat) (b : List UInt8) (r : GRec) : tkiSp [V.sl t 1 (zae b),.own 0 0 2] [⟨184,1,[[V.ptr 1 0 1],[V.ptr 1 0 2]],true,0,.rw⟩,rcO r] = some (zdg t [1,2] b r):=ziR (offs:=[1,2]) off12 (by simp) (by simp)
theorem zmL {t o : Nat} {l : List Nat} {b : List UInt8} {r : GRec} {e : Int} (he : ¬ e = 0) (h : takeT b = (0,0,e)) : zdg t (o :: l) b r = ⟨.tup [.sl 0 1 [],.bool false],[ptO (o :: l),rcO r]⟩:=by simp [zdg,tkiGo,h,he]
theorem zb9 {t o : Nat} {b : List UInt8} {r : GRec} {n : Int} {q : Nat} (h : takeT b = (n,(q : Int),0)) : zdg t [o] b r = ⟨.tup [.sl t 1 (zae (b.drop q)),.bool true],[ptO [o],rcO (setF o n r)]⟩:=by simp [zdg,tkiGo,h]
theorem zvA {t o p : Nat} {b : List UInt8} {r : GRec} {n v : Int} {q m : Nat} (h : takeT b = (n,(q : Int),0)) (h2 : takeT (b.drop q) = (v,(m : Int),0)) : zdg t [o,p] b r = ⟨.tup [.sl t 1 (zae (b.drop (q + m))),.bool true],[ptO [o,p],rcO (setF p v (setF o n r))]⟩:=by simp [zdg,tkiGo,h,h2]
theorem zxJ {t o p : Nat} {b : List UInt8} {r : GRec} {n : Int} {q : Nat} {e : Int} (he : ¬ e = 0) (h : takeT b = (n,(q : Int),0)) (h2 : takeT (b.drop q) = (0,0,e)) : zdg t [o,p] b r = ⟨.tup [.sl 0 1 [],.bool false],[ptO [o,p],rcO (setF o n r)]⟩:=by simp [zdg,tkiGo,h,h2,he]
theorem zcR (o : Nat) : ptO [o] = ⟨184,1,[[V.ptr 1 0 o]],true,0,.rw⟩:=rfl
theorem zge (o p : Nat) : ptO [o,p] = ⟨184,1,[[V.ptr 1 0 o],[V.ptr 1 0 p]],true,0,.rw⟩:=rfl
noncomputable def teRes (t : Nat) (b : List UInt8) (r : GRec) : CRes:=if (readE b).2.2 = 0 then ⟨.tup [.sl t 1 (zae (b.drop (readE b).2.1.toNat)),.bool true],[rcO { r with e:=(readE b).1 }]⟩ else ⟨.tup [.sl 0 1 [],.bool false],[rcO r]⟩
theorem te_ok {t : Nat} {b : List UInt8} {r : GRec} {y : GEntry} {k : Nat} (h : readE b = (y,(k : Int),0)) : teRes t b r = ⟨.tup [.sl t 1 (zae (b.drop k)),.bool true],[rcO { r with e:=y }]⟩:=by unfold teRes; rw [h,if_pos rfl]; simp
theorem zyu {t : Nat} {b : List UInt8} {r : GRec} {y : GEntry} {m g : Int} (hg : ¬ g = 0) (h : readE b = (y,m,g)) : teRes t b r = ⟨.tup [.sl 0 1 [],.bool false],[rcO r]⟩:=by unfold teRes; rw [h,if_neg hg]
noncomputable def teSp:=fam (fun i : Nat × (List UInt8) × GRec=>[V.sl i.1 1 (zae i.2.1),.ptr 0 0 3]) (fun i=>[rcO i.2.2]) (fun i=>((i.2.1.length : Int) ≤ 140737488355328)) (fun i=>teRes i.1 i.2.1 i.2.2)
@[simp] theorem teSp_eq {t : Nat} {b : List UInt8} {r : GRec} (h1 : (b.length : Int) ≤ 140737488355328) : teSp ([V.sl t 1 (zae b),.ptr 0 0 3]) ([rcO r]) = some (teRes t b r) :=
 zag (by rintro ⟨a0,a1,a2⟩ ⟨b0,b1,b2⟩ h h' <;> simp at h h' <;> simp_all) (t,b,r) h1
noncomputable def CMB:=mkC [(202,zj2)]
theorem zz5 : zai Tryz.prog CMB:=zat (all_cons zvc all_nil)
@[simp] theorem CMB_1 : CMB 202 = zj2:=rfl
set_option maxHeartbeats 4000000 in
theorem zzu : Lift.Spec Tryz.prog 187 teSp:=by
 refine zad [] (C:=CMB) zac zz5 follows Tryz.func187 (by kernel_rfl) rfl (by kernel_rfl) rfl ?_
 rintro ⟨t,b,x⟩ h1
 try simp only at h1
 refine ⟨by simp,?_⟩
 intro r hr
 rcases hT : readE b with ⟨y,m,g⟩
 by_cases hg : g = 0
 ·subst hg
  obtain ⟨g1,g2,g3,_⟩:=zfw hT
  obtain ⟨k,rfl⟩:=Int.eq_ofNat_of_zero_le (show 0 ≤ m by omega)
  have hk : k ≤ b.length:=by omega
  simp only [te_ok hT] at hr
  simp [zcS hT,h1,hk,GRec.cells,GEntry.cells]
  rw [hr]
  refine retC [] [] [] rfl ?_
  simp
 ·simp only [zyu hg hT] at hr
  simp [zcS hT,h1,hg,GRec.cells,GEntry.cells]
  rw [hr]
  refine retC [] [] [] rfl ?_
  simp
end Go.Proofs.YtcpdgbncekdicaaGreat

namespace Go.Proofs.YtcpdgbncekdicaaGreat
open Go.Lift
def zeroR : GRec:=⟨0,0,0,⟨0,0,0,0,0,0,0,0,0⟩⟩
noncomputable def readR (p : List UInt8) : GRec × Bool :=
 if (takeT p).2.2 ≠ 0 then (zeroR,false) else
 if (takeT p).1 = 1 then
  (if (takeT (p.drop (takeT p).2.1.toNat)).2.2 ≠ 0 then (zeroR,false) else
   if (takeT (p.drop ((takeT p).2.1.toNat + (takeT (p.drop (takeT p).2.1.toNat)).2.1.toNat))).2.2 = 0 ∧ (takeT p).2.1.toNat + ((takeT (p.drop (takeT p).2.1.toNat)).2.1.toNat + (takeT (p.drop ((takeT p).2.1.toNat + (takeT (p.drop (takeT p).2.1.toNat)).2.1.toNat))).2.1.toNat) = p.length then
    ({ zeroR with k:=1,t:=(takeT (p.drop (takeT p).2.1.toNat)).1,n:=(takeT (p.drop ((takeT p).2.1.toNat + (takeT (p.drop (takeT p).2.1.toNat)).2.1.toNat))).1 },true) else (zeroR,false))
 else if (takeT p).1 = 2 then
  (if (takeT (p.drop (takeT p).2.1.toNat)).2.2 ≠ 0 then (zeroR,false) else
   if (readE (p.drop ((takeT p).2.1.toNat + (takeT (p.drop (takeT p).2.1.toNat)).2.1.toNat))).2.2 = 0 ∧ (takeT p).2.1.toNat + ((takeT (p.drop (takeT p).2.1.toNat)).2.1.toNat + (readE (p.drop ((takeT p).2.1.toNat + (takeT (p.drop (takeT p).2.1.toNat)).2.1.toNat))).2.1.toNat) = p.length then
    ({ zeroR with k:=2,t:=(takeT (p.drop (takeT p).2.1.toNat)).1,e:=(readE (p.drop ((takeT p).2.1.toNat + (takeT (p.drop (takeT p).2.1.toNat)).2.1.toNat))).1 },true) else (zeroR,false))
 else if (takeT p).1 = 3 then
  (if (takeT (p.drop (takeT p).2.1.toNat)).2.2 ≠ 0 then (zeroR,false) else
   if (takeT p).2.1.toNat + (takeT (p.drop (takeT p).2.1.toNat)).2.1.toNat = p.length then ({ zeroR with k:=3,n:=(takeT (p.drop (takeT p).2.1.toNat)).1 },true) else (zeroR,false))
 else if (takeT p).2.1.toNat = p.length then ({ zeroR with k:=(takeT p).1 },true) else (zeroR,false)
noncomputable def CPA:=mkC [(186,tkiSp),(187,teSp)]
theorem zAb : zai Tryz.prog CPA:=zat (all_cons zxI (all_cons zzu all_nil))
@[simp] theorem CPA_1 : CPA 186 = tkiSp:=rfl
@[simp] theorem CPA_2 : CPA 187 = teSp:=rfl
noncomputable def rdrSp:=fam (fun i : Nat × (List UInt8)=>[V.sl i.1 1 (zae i.2)]) (fun _=>[]) (fun i=>((i.2.length : Int) ≤ 140737488355328)) (fun i=>⟨.tup [vRec (readR i.2).1,.bool (readR i.2).2],[]⟩)
@[simp] theorem rdrSp_eq {t : Nat} {p : List UInt8} (h1 : (p.length : Int) ≤ 140737488355328) : rdrSp ([V.sl t 1 (zae p)]) ([]) = some (⟨.tup [vRec (readR p).1,.bool (readR p).2],[]⟩) :=
 zag (by rintro ⟨a0,a1⟩ ⟨b0,b1⟩ h h' <;> simp at h h' <;> simp_all) (t,p) h1
set_option maxHeartbeats 8000000 in
theorem zxq : Lift.Spec Tryz.prog 157 rdrSp:=by
 refine zaj (C:=CPA) zac zAb follows Tryz.func157 (by kernel_rfl) rfl (by kernel_rfl) rfl ?_
 rintro ⟨t,p⟩ hp
 try simp only at hp
 refine ⟨by simp,?_⟩
 intro r hr
 rcases zb2 p with ⟨e,he,hT⟩ | ⟨kind,q,hT,hq1,hq2⟩
 ·simp [zmL he hT,zcR,GRec.cells]
  have hR : readR p = (zeroR,false):=by simp [readR,hT,he]
  ((repeat refine dr ?_); rw [hr]; refine zaa rfl ?_ rfl; simp [hR,zeroR,GRec.cells,GEntry.cells])
 have hq3 : (q : Int) ≤ p.length:=by omega
 by_cases k1 : kind = 1
 ·subst k1
  rcases zb2 (p.drop q) with ⟨e,he,hT2⟩ | ⟨n,k,hT2,hk1,hk2⟩
  ·simp [zb9 hT,zmL he hT2,zcR,zge,GRec.cells,setF]
   have hR : readR p = (zeroR,false):=by simp [readR,hT,hT2,he]
   ((repeat refine dr ?_); rw [hr]; refine zaa rfl ?_ rfl; simp [hR,zeroR,GRec.cells,GEntry.cells])
  rw [List.length_drop] at hk2
  rcases zb2 (p.drop (q + k)) with ⟨e,he,hT3⟩ | ⟨v,m,hT3,hm1,hm2⟩
  ·have hT3' : takeT ((p.drop q).drop k) = (0,0,e):=by rw [List.drop_drop]; exact hT3
   simp [zb9 hT,zxJ he hT2 hT3',zcR,zge,GRec.cells,setF]
   have hR : readR p = (zeroR,false):=by simp [readR,hT,hT2,hT3,he]
   ((repeat refine dr ?_); rw [hr]; refine zaa rfl ?_ rfl; simp [hR,zeroR,GRec.cells,GEntry.cells])
  rw [List.length_drop] at hm2
  have hT3' : takeT ((p.drop q).drop k) = (v,(m : Int),0):=by rw [List.drop_drop]; exact hT3
  by_cases hl : q + (k + m) = p.length
  ·have hl2 : ¬ 0 < p.length - (q + (k + m)):=by omega
   simp [zb9 hT,zvA hT2 hT3',zcR,zge,GRec.cells,setF,hl2]
   have hR : readR p = ({ zeroR with k:=1,t:=n,n:=v },true):=by simp [readR,hT,hT2,hT3,hl]
   ((repeat refine dr ?_); rw [hr]; refine zaa rfl ?_ rfl; simp [hR,zeroR,GRec.cells,GEntry.cells])
  ·have hl2 : 0 < p.length - (q + (k + m)):=by omega
   simp [zb9 hT,zvA hT2 hT3',zcR,zge,GRec.cells,setF,hl2]
   have hR : readR p = (zeroR,false):=by simp [readR,hT,hT2,hT3,hl]
   ((repeat refine dr ?_); rw [hr]; refine zaa rfl ?_ rfl; simp [hR,zeroR,GRec.cells,GEntry.cells])
 by_cases k2 : kind = 2
 ·subst k2
  rcases zb2 (p.drop q) with ⟨e,he,hT2⟩ | ⟨n,k,hT2,hk1,hk2⟩
  ·simp [zb9 hT,zmL he hT2,zcR,GRec.cells,setF]
   have hR : readR p = (zeroR,false):=by simp [readR,hT,hT2,he]
   ((repeat refine dr ?_); rw [hr]; refine zaa rfl ?_ rfl; simp [hR,zeroR,GRec.cells,GEntry.cells])
  rw [List.length_drop] at hk2
  have hpl : ((p.length - (q + k) : Nat) : Int) ≤ 140737488355328:=by omega
  rcases hT3 : readE (p.drop (q + k)) with ⟨x,m,g⟩
  by_cases hg : g = 0
  ·subst hg
   obtain ⟨g1,g2,g3,_⟩:=zfw hT3
   rw [List.length_drop] at g3
   obtain ⟨m,rfl⟩:=Int.eq_ofNat_of_zero_le (show 0 ≤ m by omega)
   by_cases hl : q + (k + m) = p.length
   ·have hl2 : ¬ 0 < p.length - (q + (k + m)):=by omega
    simp [zb9 hT,zb9 hT2,te_ok hT3,zcR,zge,GRec.cells,setF,hl2,hpl,Nat.add_assoc]
    have hR : readR p = ({ zeroR with k:=2,t:=n,e:=x },true):=by simp [readR,hT,hT2,hT3,hl]
    ((repeat refine dr ?_); rw [hr]; refine zaa rfl ?_ rfl; simp [hR,zeroR,GRec.cells,GEntry.cells])
   ·have hl2 : 0 < p.length - (q + (k + m)):=by omega
    simp [zb9 hT,zb9 hT2,te_ok hT3,zcR,zge,GRec.cells,setF,hl2,hpl,Nat.add_assoc]
    have hR : readR p = (zeroR,false):=by simp [readR,hT,hT2,hT3,hl]
    ((repeat refine dr ?_); rw [hr]; refine zaa rfl ?_ rfl; simp [hR,zeroR,GRec.cells,GEntry.cells])
  ·simp [zb9 hT,zb9 hT2,zyu hg hT3,zcR,zge,GRec.cells,setF,hpl]
   have hR : readR p = (zeroR,false):=by simp [readR,hT,hT2,hT3,hg]
   ((repeat refine dr ?_); rw [hr]; refine zaa rfl ?_ rfl; simp [hR,zeroR,GRec.cells,GEntry.cells])
 by_cases k3 : kind = 3
 ·subst k3
  rcases zb2 (p.drop q) with ⟨e,he,hT2⟩ | ⟨n,k,hT2,hk1,hk2⟩
  ·simp [zb9 hT,zmL he hT2,zcR,GRec.cells,setF]
   have hR : readR p = (zeroR,false):=by simp [readR,hT,hT2,he]
   ((repeat refine dr ?_); rw [hr]; refine zaa rfl ?_ rfl; simp [hR,zeroR,GRec.cells,GEntry.cells])
  rw [List.length_drop] at hk2
  by_cases hl : q + k = p.length
  ·have hl2 : ¬ 0 < p.length - (q + k):=by omega
   simp [zb9 hT,zb9 hT2,zcR,GRec.cells,setF,hl2]
   have hR : readR p = ({ zeroR with k:=3,n:=n },true):=by simp [readR,hT,hT2,hl]
   ((repeat refine dr ?_); rw [hr]; refine zaa rfl ?_ rfl; simp [hR,zeroR,GRec.cells,GEntry.cells])
  ·have hl2 : 0 < p.length - (q + k):=by omega
   simp [zb9 hT,zb9 hT2,zcR,GRec.cells,setF,hl2]
   have hR : readR p = (zeroR,false):=by simp [readR,hT,hT2,hl]
   ((repeat refine dr ?_); rw [hr]; refine zaa rfl ?_ rfl; simp [hR,zeroR,GRec.cells,GEntry.cells])
 ·by_cases hl : q = p.length
  ·have hl2 : ¬ 0 < p.length - q:=by omega
   simp [zb9 hT,zcR,GRec.cells,setF,k1,k2,k3,hl2]
   have hR : readR p = ({ zeroR with k:=kind },true):=by simp [readR,hT,k1,k2,k3,hl]
   ((repeat refine dr ?_); rw [hr]; refine zaa rfl ?_ rfl; simp [hR,zeroR,GRec.cells,GEntry.cells])
  ·have hl2 : 0 < p.length - q:=by omega
   simp [zb9 hT,zcR,GRec.cells,setF,k1,k2,k3,hl2]
   have hR : readR p = (zeroR,false):=by simp [readR,hT,k1,k2,k3,hl]
   ((repeat refine dr ?_); rw [hr]; refine zaa rfl ?_ rfl; simp [hR,zeroR,GRec.cells,GEntry.cells])
end Go.Proofs.YtcpdgbncekdicaaGreat

namespace Go.Proofs.YtcpdgbncekdicaaGreat
open Go.Lift
theorem zn3 (J : JN) (p : List UInt8) : recordJ J p = if (readR p).2 = true then (apJ J (readR p).1,decide (apE J (readR p).1 = 0)) else (J,false):=by
 rcases zb2 p with ⟨e,he,hT⟩ | ⟨kind,q,hT,hq1,hq2⟩
 ·simp [recordJ,readR,hT,he]
 rcases zb2 (p.drop q) with ⟨e,he,hT2⟩ | ⟨n,k,hT2,hk1,hk2⟩
 ·by_cases k1 : kind = 1
  ·simp [recordJ,readR,hT,hT2,he,k1]
  by_cases k2 : kind = 2
  ·simp [recordJ,readR,hT,hT2,he,k2]
  by_cases k3 : kind = 3
  ·simp [recordJ,readR,hT,hT2,he,k3]
  by_cases hl : q = p.length
  ·simp [recordJ,readR,hT,hT2,he,k1,k2,k3,hl,apJ,apE]
  ·simp [recordJ,readR,hT,hT2,he,k1,k2,k3,hl]
 have hN : ((q : Int) + (k : Int)).toNat = q + k:=by omega
 by_cases k1 : kind = 1
 ·subst k1
  rcases zb2 (p.drop (q + k)) with ⟨e,he,hT3⟩ | ⟨v,m,hT3,hm1,hm2⟩
  ·simp [recordJ,readR,hT,hT2,hT3,he,hN]
  by_cases hl : q + (k + m) = p.length
  ·have hl2 : (q : Int) + k + m = p.length:=by omega
   simp [recordJ,readR,hT,hT2,hT3,hN,hl,hl2,apJ,apE,zeroR]
  ·have hl2 : ¬ (q : Int) + k + m = p.length:=by omega
   simp [recordJ,readR,hT,hT2,hT3,hN,hl,hl2]
 by_cases k2 : kind = 2
 ·subst k2
  rcases hT3 : readE (p.drop (q + k)) with ⟨x,m,g⟩
  by_cases hg : g = 0
  ·subst hg
   obtain ⟨g1,g2,g3,_⟩:=zfw hT3
   obtain ⟨m,rfl⟩:=Int.eq_ofNat_of_zero_le (show 0 ≤ m by omega)
   by_cases hl : q + (k + m) = p.length
   ·have hl2 : (q : Int) + k + m = p.length:=by omega
    simp [recordJ,readR,hT,hT2,hT3,hN,hl,hl2,apJ,apE,zeroR]
   ·have hl2 : ¬ (q : Int) + k + m = p.length:=by omega
    simp [recordJ,readR,hT,hT2,hT3,hN,hl,hl2]
  ·simp [recordJ,readR,hT,hT2,hT3,hN,hg]
 by_cases k3 : kind = 3
 ·subst k3
  by_cases hl : q + k = p.length
  ·have hl2 : (q : Int) + k = p.length:=by omega
   simp [recordJ,readR,hT,hT2,hN,hl,hl2,apJ,apE,zeroR]
  ·have hl2 : ¬ (q : Int) + k = p.length:=by omega
   simp [recordJ,readR,hT,hT2,hN,hl,hl2]
 ·by_cases hl : q = p.length
  ·simp [recordJ,readR,hT,hT2,k1,k2,k3,hl,apJ,apE]
  ·simp [recordJ,readR,hT,hT2,k1,k2,k3,hl]
noncomputable def CQA:=mkC [(157,rdrSp),(126,zd3)]
theorem zAd : zai Tryz.prog CQA:=zat (all_cons zxq (all_cons zhT all_nil))
@[simp] theorem CQA_1 : CQA 157 = rdrSp:=rfl
@[simp] theorem CQA_2 : CQA 126 = zd3:=rfl
noncomputable def zml:=fam (fun i : JN × Nat × (List UInt8)=>[V.ptr 0 0 0,.sl i.2.1 1 (zae i.2.2)]) (fun i=>[jnO i.1]) (fun i=>(i.1.log.length ≤ 1000000000) ∧ (i.2.2.length ≤ 140737488355328)) (fun i=>⟨.bool (recordJ i.1 i.2.2).2,[jnO (recordJ i.1 i.2.2).1]⟩)
@[simp] theorem jnRecSp_eq {J : JN} {t : Nat} {p : List UInt8} (h1 : J.log.length ≤ 1000000000) (h2 : p.length ≤ 140737488355328) : zml ([V.ptr 0 0 0,.sl t 1 (zae p)]) ([jnO J]) = some (⟨.bool (recordJ J p).2,[jnO (recordJ J p).1]⟩) :=
 zag (by rintro ⟨a0,a1,a2⟩ ⟨b0,b1,b2⟩ h h' <;> simp at h h' <;> simp_all) (J,t,p) ⟨h1,h2⟩
theorem zsa : Lift.Spec Tryz.prog 133 zml:=by
 refine zad [] (C:=CQA) zac zAd follows Tryz.func133 (by kernel_rfl) rfl (by kernel_rfl) rfl ?_
 rintro ⟨J,t,p⟩ ⟨h0,hp⟩
 try simp only at h0 hp
 refine ⟨by simp,?_⟩
 intro r hr
 have hp' : (p.length : Int) ≤ 140737488355328:=by omega
 have hR:=zn3 J p
 obtain ⟨x,hx⟩ : ∃ x,x = (readR p).1:=⟨_,rfl⟩
 rw [← hx] at hR
 cases hb : (readR p).2 with
 | false =>
  rw [hb,if_neg (by decide)] at hR
  simp [hp',hb,← hx,GRec.cells,GEntry.cells]
  rw [hr]
  refine retC [] [.inl 0] [] rfl ?_
  simp [hR]
 | true =>
  rw [hb,if_pos rfl] at hR
  simp [hp',hb,← hx,h0,GRec.cells,GEntry.cells]
  rw [hr]
  refine retC [] [.inl 0] [] rfl ?_
  simp [hR]
noncomputable def CQB:=mkC [(100,zgO)]
theorem ztA : zai Tryz.prog CQB:=zat (all_cons znI all_nil)
@[simp] theorem CQB_1 : CQB 100 = zgO:=rfl
theorem zrn : GEntry.ok ⟨0,0,0,0,0,0,0,0,0⟩:=by unfold GEntry.ok In64; simp only; omega
theorem okA {t v : Int} (h2 : In64 t) (h3 : In64 v) : GRec.ok ⟨1,t,v,⟨0,0,0,0,0,0,0,0,0⟩⟩:=⟨in1,h2,h3,zrn⟩
theorem okE {t : Int} {e : GEntry} (h2 : In64 t) (h3 : GEntry.ok e) : GRec.ok ⟨2,t,0,e⟩:=⟨in2,h2,in0,h3⟩
theorem okC {n : Int} (h2 : In64 n) : GRec.ok ⟨3,0,n,⟨0,0,0,0,0,0,0,0,0⟩⟩:=⟨in3,in0,h2,zrn⟩
theorem wrA (J : JN) (t v : Int) : wrJ J ⟨1,t,v,⟨0,0,0,0,0,0,0,0,0⟩⟩ = zaq J t v:=by simp [wrJ,apE,apJ,zaq,recB,recA]
theorem wrE (J : JN) (t : Int) (e : GEntry) : wrJ J ⟨2,t,0,e⟩ = zaw J t e:=by simp [wrJ,apE,apJ,zaw,recB,recE]
theorem wrC (J : JN) (n : Int) : wrJ J ⟨3,0,n,⟨0,0,0,0,0,0,0,0,0⟩⟩ = cutJ J n:=by simp [wrJ,apE,apJ,cutJ,recB,recC]
noncomputable def zej:=fam (fun i : JN × Int × Int=>[V.ptr 0 0 0,.int .i64 i.2.1,.int .i64 i.2.2]) (fun i=>[jnO i.1]) (fun i=>(i.1.b.length ≤ 1000000000) ∧ (In64 i.2.1) ∧ (In64 i.2.2)) (fun i=>⟨.int .i64 (stE i.1 i.2.1 i.2.2),[jnO (zaq i.1 i.2.1 i.2.2)]⟩)
@[simp] theorem jnSetTermSp_eq {J : JN} {t v : Int} (h1 : J.b.length ≤ 1000000000) (h2 : In64 t) (h3 : In64 v) : zej ([V.ptr 0 0 0,.int .i64 t,.int .i64 v]) ([jnO J]) = some (⟨.int .i64 (stE J t v),[jnO (zaq J t v)]⟩) :=
 zag (by rintro ⟨a0,a1,a2⟩ ⟨b0,b1,b2⟩ h h' <;> simp at h h' <;> simp_all) (J,t,v) ⟨h1,h2,h3⟩
theorem zkE : Lift.Spec Tryz.prog 65 zej:=by
 refine zad [] (C:=CQB) zac ztA follows Tryz.func65 (by kernel_rfl) rfl (by kernel_rfl) rfl ?_
 rintro ⟨J,t,v⟩ ⟨h1,h2,h3⟩
 try simp only at h1 h2 h3
 refine ⟨by simp,?_⟩
 intro r hr
 simp [h1,okA h2 h3,wrA]
 rw [hr]
 refine retC [] [.inl 0] [] rfl ?_
 simp [apE]
noncomputable def zfo:=fam (fun i : JN × Int × GEntry=>[V.ptr 0 0 0,.int .i64 i.2.1,zaB i.2.2]) (fun i=>[jnO i.1]) (fun i=>(i.1.b.length ≤ 1000000000) ∧ (i.1.log.length ≤ 1000000000) ∧ (In64 i.2.1) ∧ (GEntry.ok i.2.2)) (fun i=>⟨.int .i64 (adE i.1 i.2.1 i.2.2),[jnO (zaw i.1 i.2.1 i.2.2)]⟩)
@[simp] theorem jnAppendSp_eq {J : JN} {t : Int} {e : GEntry} (h1 : J.b.length ≤ 1000000000) (h2 : J.log.length ≤ 1000000000) (h3 : In64 t) (h4 : GEntry.ok e) : zfo ([V.ptr 0 0 0,.int .i64 t,zaB e]) ([jnO J]) = some (⟨.int .i64 (adE J t e),[jnO (zaw J t e)]⟩) :=
 zag (by rintro ⟨a0,a1,a2⟩ ⟨b0,b1,b2⟩ h h' <;> simp at h h' <;> simp_all) (J,t,e) ⟨h1,h2,h3,h4⟩
theorem zmi : Lift.Spec Tryz.prog 98 zfo:=by
 refine zad [] (C:=CQB) zac ztA follows Tryz.func98 (by kernel_rfl) rfl (by kernel_rfl) rfl ?_
 rintro ⟨J,t,e⟩ ⟨h1,h0,h2,h3⟩
 try simp only at h1 h0 h2 h3
 refine ⟨by simp,?_⟩
 intro r hr
 simp [h1,h0,okE h2 h3,wrE,GEntry.cells]
 rw [hr]
 refine retC [] [.inl 0] [] rfl ?_
 simp [apE]
noncomputable def ziv:=fam (fun i : JN × Int=>[V.ptr 0 0 0,.int .i64 i.2]) (fun i=>[jnO i.1]) (fun i=>(i.1.b.length ≤ 1000000000) ∧ (i.1.log.length ≤ 1000000000) ∧ (In64 i.2)) (fun i=>⟨.int .i64 (cuE i.1 i.2),[jnO (cutJ i.1 i.2)]⟩)
@[simp] theorem jnCutASp_eq {J : JN} {n : Int} (h1 : J.b.length ≤ 1000000000) (h2 : J.log.length ≤ 1000000000) (h3 : In64 n) : ziv ([V.ptr 0 0 0,.int .i64 n]) ([jnO J]) = some (⟨.int .i64 (cuE J n),[jnO (cutJ J n)]⟩) :=
 zag (by rintro ⟨a0,a1⟩ ⟨b0,b1⟩ h h' <;> simp at h h' <;> simp_all) (J,n) ⟨h1,h2,h3⟩
theorem zpm : Lift.Spec Tryz.prog 105 ziv:=by
 refine zad [] (C:=CQB) zac ztA follows Tryz.func105 (by kernel_rfl) rfl (by kernel_rfl) rfl ?_
 rintro ⟨J,n⟩ ⟨h1,h0,h2⟩
 try simp only at h1 h0 h2
 refine ⟨by simp,?_⟩
 intro r hr
 simp [h1,h0,okC h2,wrC]
 rw [hr]
 refine retC [] [.inl 0] [] rfl ?_
 simp [apE]
end Go.Proofs.YtcpdgbncekdicaaGreat

namespace Go.Proofs.YtcpdgbncekdicaaGreat
open Go.Lift
theorem zw4 {l p : List UInt8} {n : Nat} (h : frT 8 l = (p,(n : Int),0)) : n = (putB 8 [] p).length:=by
 rcases zgJ 8 l with ⟨e,he,hT,hL⟩ | ⟨m,k,hL,hn,hk1,hk2,hk,⟨rest,hr1,hr2⟩,hc⟩
 ·rw [hT] at h
  simp only [Prod.mk.injEq] at h
  exact absurd h.2.2 he
 rcases hc with ⟨_,hT⟩ | ⟨_,_,hT⟩ | ⟨hs,_,hT⟩
 ·rw [hT] at h; simp at h
 ·rw [hT] at h; simp at h
 ·rw [hT] at h
  simp only [Prod.mk.injEq,and_true] at h
  obtain ⟨h1,h2⟩:=h
  have hpl : p.length = m:=by rw [← h1,List.length_take,List.length_drop]; omega
  rw [zhw (by omega),zjG,hpl,← hr2]
  omega
theorem zi2 (key : Int) (b : List UInt8) : ∀ (f at_ : Nat) (acc : List (List UInt8)),allGo key f b at_ acc = (acc ++ (allGo key f b at_ []).1,(allGo key f b at_ []).2)
 | 0,at_,acc=>by simp [allGo]
 | f + 1,at_,acc=>by
  rw [allGo]
  conv=>rhs; rw [allGo]
  split
  ·rw [zi2 key b f _ (acc ++ _)]
   conv=>rhs; rw [zi2 key b f _ ([] ++ _)]
   simp
  ·simp
noncomputable def fromL (b : List UInt8) (n : Nat) : List (List UInt8):=(allAt 8 b n []).1
theorem zr1 (b : List UInt8) : fromL b 0 = (allT 8 b).1:=by rw [zlJ]; rfl
theorem zuq {b : List UInt8} {n : Nat} {e : Int} (h : n ≤ b.length) (he : ¬ e = 0) (hT : frT 8 (b.drop n) = ([],0,e)) : fromL b n = []:=by unfold fromL; rw [zdW h he hT]
theorem zw5 {b : List UInt8} {n m : Nat} {p : List UInt8} (h : n ≤ b.length) (hm : 1 ≤ m) (hle : n + m ≤ b.length) (hT : frT 8 (b.drop n) = (p,(m : Int),0)) : fromL b n = p :: fromL b (n + m):=by
 unfold fromL
 rw [zig h hm hle hT]
 unfold allAt
 rw [zi2]
 rfl
noncomputable def CNB:=mkC [(58,zdA),(134,zgB),(124,zc6),(132,zdi),(133,zml)]
theorem zz8 : zai Tryz.prog CNB:=zat (all_cons zh0 (all_cons znl (all_cons zeN (all_cons zjH (all_cons zsa all_nil)))))
@[simp] theorem CNB_1 : CNB 58 = zdA:=rfl
@[simp] theorem CNB_2 : CNB 134 = zgB:=rfl
@[simp] theorem CNB_3 : CNB 124 = zc6:=rfl
@[simp] theorem CNB_4 : CNB 132 = zdi:=rfl
@[simp] theorem CNB_5 : CNB 133 = zml:=rfl
noncomputable def zix:=fam (fun _ : JN=>[V.ptr 0 0 0]) (fun i=>[jnO i]) (fun i=>(i.b.length ≤ 1000000000) ∧ (i.d ≤ i.b.length)) (fun i=>⟨.tup [],[jnO (readJ i.b i.d)]⟩)
@[simp] theorem jnReadSp_eq {J : JN} (h1 : J.b.length ≤ 1000000000) (h2 : J.d ≤ J.b.length) : zix ([V.ptr 0 0 0]) ([jnO J]) = some (⟨.tup [],[jnO (readJ J.b J.d)]⟩) :=
 zag (by intro a b h h' <;> simp at h h' <;> simp_all) J ⟨h1,h2⟩
def jdSt (b : List UInt8) (i : Nat × JN) : St:=mkSt [(0,.ptr 0 0 0),(2,.own 1 0 b.length),(3,.int .i64 i.1)] [(0,jnO i.2),(1,rowOf b)] 2
set_option maxHeartbeats 4000000 in
theorem zpo : Lift.Spec Tryz.prog 114 zix:=by
 refine zad [] (C:=CNB) zac zz8 follows Tryz.func114 (by kernel_rfl) rfl (by kernel_rfl) rfl ?_
 rintro J ⟨h1,h2⟩
 try simp only at h1 h2
 refine ⟨by simp,?_⟩
 intro r hr
 obtain ⟨b,hb⟩ : ∃ b,b = J.b:=⟨_,rfl⟩
 obtain ⟨d,hd⟩ : ∃ d,d = J.d:=⟨_,rfl⟩
 rw [← hb] at h1 h2
 rw [← hd] at h2
 have c3 : b.length ≤ 140737488355328:=by omega
 have hend : ∀ (K : JN) (n : Nat),zbM (allT 8 b).1 ⟨b,d,0,-1,[]⟩ 0 = (K,n) → n ≤ b.length → readJ b d = { K with b:=b.take n,d:=min d n }:=by
  intro K n h h1
  unfold readJ zdO
  rw [h]
  simp only [if_neg (show ¬ b.length < n by omega)]
 simp only [← hb,← hd] at hr
 simp [← hb,← hd,c3]
 refine zal (jdSt b) (fun i=>i.1 ≤ b.length ∧ zbM (fromL b i.1) i.2 i.1 = zbM (allT 8 b).1 ⟨b,d,0,-1,[]⟩ 0 ∧ i.2.b = b ∧ i.2.d = d ∧ i.2.log.length ≤ i.1) (fun i=>b.length - i.1) (0,⟨b,d,0,-1,[]⟩) ?_ ⟨Nat.zero_le _,by rw [zr1],rfl,rfl,Nat.le_refl _⟩ ?_
 ·refine (zop _ 0 2 56 10).trans ((zfI [0] _).trans (zak [.inl 0,.inr 2] ?_ ?_ ?_ ?_)) <;> simp [rowOf]
 ·rintro ⟨n,K⟩ ⟨hi,g1,g2,g3,g4⟩
  simp only at hi g1 g2 g3 g4
  have w5 : K.b.length ≤ 140737488355328:=by rw [g2]; omega
  have w6 : K.d ≤ K.b.length:=by rw [g2,g3]; omega
  have hdl : ((b.length - n : Nat) : Int) ≤ 140737488355328:=by omega
  have e:=zph (t:=2) (b:=b.drop n) (key:=8) (by simp) in8 (by rw [List.length_drop]; omega)
  rcases zl9 8 (b.drop n) with ⟨x,he,hT⟩ | ⟨p,m,hT,hm9,hml,hpl⟩
  ·rw [hT,zc9 _ _ _ he] at e
   rw [zuq hi he hT,zbM] at g1
   have hE:=hend _ _ g1.symm hi
   rw [hE] at hr
   have ht2 : ¬ (K.b.length : Int) < (n : Int):=by rw [g2]; omega
   simp [jdSt,rowOf,e,he,hi,zkp,w5,w6,ht2]
   rw [hr]
   refine retC [] [.inl 0] [] rfl ?_
   simp [g2,g3]
  ·rw [hT,zit] at e
   rw [List.length_drop] at hml
   have hB:=zw4 hT
   rw [zw5 hi (by omega) (by omega) hT] at g1
   have w7 : IntKind.i64.wrap ((n : Int) + (m : Int)) = (n : Int) + (m : Int):=w64
   have q1 : K.log.length ≤ 1000000000:=by omega
   have q2 : p.length ≤ 140737488355328:=by omega
   obtain ⟨r1,r2⟩:=zh2 K p
   have r3:=zj3 K p
   cases hrec : (recordJ K p).2 with
   | true =>
    rw [zbM,if_pos hrec,← hB] at g1
    simp [jdSt,rowOf,e,hi,q1,q2,hrec,w7]
    refine Again.mk (n + m,(recordJ K p).1) ⟨by simp only; omega,g1,r1.trans g2,r2.trans g3,by simp only; omega⟩ (by simp only; omega) ?_
    refine (zfI [0] _).trans (zak [.inl 0,.inr 2] ?_ ?_ ?_ ?_) <;> simp [rowOf,w7]
   | false =>
    rw [zbM,if_neg (by rw [hrec]; decide)] at g1
    have hE:=hend _ _ g1.symm hi
    rw [hE] at hr
    have v5 : (recordJ K p).1.b.length ≤ 140737488355328:=by rw [r1]; exact w5
    have v6 : (recordJ K p).1.d ≤ (recordJ K p).1.b.length:=by rw [r1,r2]; exact w6
    have ht2 : ¬ ((recordJ K p).1.b.length : Int) < (n : Int):=by rw [r1,g2]; omega
    simp [jdSt,rowOf,e,hi,q1,q2,hrec,zkp,v5,v6,ht2]
    rw [hr]
    refine retC [] [.inl 0] [] rfl ?_
    simp [r1,r2,g2,g3]
noncomputable def CNC:=mkC [(113,zd0),(114,zix)]
theorem zz9 : zai Tryz.prog CNC:=zat (all_cons zhP (all_cons zpo all_nil))
@[simp] theorem CNC_1 : CNC 113 = zd0:=rfl
@[simp] theorem CNC_2 : CNC 114 = zix:=rfl
noncomputable def zgN:=fam (fun i : JN × Int=>[V.ptr 0 0 0,.int .i64 i.2]) (fun i=>[jnO i.1]) (fun i=>(i.1.b.length ≤ 1000000000) ∧ (i.1.d ≤ i.1.b.length)) (fun i=>⟨.tup [],[jnO (crashJ i.1 i.2)]⟩)
@[simp] theorem jnCrashSp_eq {J : JN} {keep : Int} (h1 : J.b.length ≤ 1000000000) (h2 : J.d ≤ J.b.length) : zgN ([V.ptr 0 0 0,.int .i64 keep]) ([jnO J]) = some (⟨.tup [],[jnO (crashJ J keep)]⟩) :=
 zag (by rintro ⟨a0,a1⟩ ⟨b0,b1⟩ h h' <;> simp at h h' <;> simp_all) (J,keep) ⟨h1,h2⟩
theorem znH : Lift.Spec Tryz.prog 87 zgN:=by
 refine zad [] (C:=CNC) zac zz9 follows Tryz.func87 (by kernel_rfl) rfl (by kernel_rfl) rfl ?_
 rintro ⟨J,keep⟩ ⟨h1,h2⟩
 try simp only at h1 h2
 refine ⟨by simp,?_⟩
 intro r hr
 have c1 : J.b.length ≤ 140737488355328:=by omega
 obtain ⟨d,hd⟩ : ∃ d,d = za9 J.b.length J.d keep:=⟨_,rfl⟩
 obtain ⟨b,hb⟩ : ∃ b,b = J.b.take d:=⟨_,rfl⟩
 have hdl : d ≤ J.b.length:=by rw [hd]; unfold za9; omega
 have hbl : b.length = d:=by rw [hb,List.length_take]; omega
 have k6:=znk (l:=J.b) (d:=J.d) (keep:=keep) c1 h2
 rw [← hd,← hb] at k6
 have c2 : b.length ≤ 1000000000:=by omega
 have c3 : d ≤ b.length:=by omega
 have hres : crashJ J keep = readJ b d:=by rw [crashJ,← hd,← hb]
 simp only [hres] at hr
 simp [k6,c2,c3]
 rw [hr]
 refine retC [] [.inl 0] [] rfl ?_
 simp
end Go.Proofs.YtcpdgbncekdicaaGreat

namespace Go.Proofs.YtcpdgbncekdicaaGreat
open Go.Lift
noncomputable def zfq:=fam (fun _ : JN=>[V.ptr 0 0 0]) (fun i=>[jnO i]) (fun _=>True) (fun i=>⟨.int .i64 i.term,[jnO i]⟩)
@[simp] theorem jnTermSp_eq {J : JN}  : zfq ([V.ptr 0 0 0]) ([jnO J]) = some (⟨.int .i64 J.term,[jnO J]⟩) :=
 zag (by intro a b h h' <;> simp at h h' <;> simp_all) J trivial
theorem zjT : Lift.Spec Tryz.prog 43 zfq:=by
 refine zad [] (C:=C0) zac C0_ok follows Tryz.func43 (by kernel_rfl) rfl (by kernel_rfl) rfl ?_
 rintro J _
 refine ⟨by simp,?_⟩
 intro r hr
 simp
 rw [hr]
 refine retC [] [.inl 0] [] rfl ?_
 simp
noncomputable def zfr:=fam (fun _ : JN=>[V.ptr 0 0 0]) (fun i=>[jnO i]) (fun _=>True) (fun i=>⟨.int .i64 i.vote,[jnO i]⟩)
@[simp] theorem jnVoteSp_eq {J : JN}  : zfr ([V.ptr 0 0 0]) ([jnO J]) = some (⟨.int .i64 J.vote,[jnO J]⟩) :=
 zag (by intro a b h h' <;> simp at h h' <;> simp_all) J trivial
theorem zjU : Lift.Spec Tryz.prog 44 zfr:=by
 refine zad [] (C:=C0) zac C0_ok follows Tryz.func44 (by kernel_rfl) rfl (by kernel_rfl) rfl ?_
 rintro J _
 refine ⟨by simp,?_⟩
 intro r hr
 simp
 rw [hr]
 refine retC [] [.inl 0] [] rfl ?_
 simp
noncomputable def zhq:=fam (fun _ : JN=>[V.ptr 0 0 0]) (fun i=>[jnO i]) (fun _=>True) (fun i=>⟨.int .i64 i.log.length,[jnO i]⟩)
@[simp] theorem jnLenSp_eq {J : JN}  : zhq ([V.ptr 0 0 0]) ([jnO J]) = some (⟨.int .i64 J.log.length,[jnO J]⟩) :=
 zag (by intro a b h h' <;> simp at h h' <;> simp_all) J trivial
theorem zla : Lift.Spec Tryz.prog 62 zhq:=by
 refine zad [] (C:=C0) zac C0_ok follows Tryz.func62 (by kernel_rfl) rfl (by kernel_rfl) rfl ?_
 rintro J _
 refine ⟨by simp,?_⟩
 intro r hr
 simp
 rw [hr]
 refine retC [] [.inl 0] [] rfl ?_
 simp
def noteE (n : Int) : GEntry:=⟨16,0,-1,-1,-1,0,0,0,n % 1000⟩
theorem zjZ (n : Int) : GEntry.ok (noteE n):=by
 unfold GEntry.ok noteE In64
 simp only
 omega
theorem zlj (n : Int) : zbj (noteE n) = true:=by
 have h1 : 0 ≤ n % 1000:=by omega
 have h2 : n % 1000 ≤ 1000000:=by omega
 simp [zbj,fitE,inR,rngK,inB,twB,noteE]
 try omega
noncomputable def zhZ:=fam (fun i : Int=>[V.int .i64 i]) (fun _=>[]) (fun _=>True) (fun i=>⟨zaB (noteE i),[]⟩)
@[simp] theorem noteSp_eq {n : Int}  : zhZ ([V.int .i64 n]) ([]) = some (⟨zaB (noteE n),[]⟩) :=
 zag (by intro a b h h' <;> simp at h h' <;> simp_all) n trivial
noncomputable def CNE:=mkC [(13,modSp)]
theorem zAa : zai Tryz.prog CNE:=zat (all_cons zgR all_nil)
@[simp] theorem CNE_1 : CNE 13 = modSp:=rfl
theorem zpG (J : JN) (p : List UInt8) : (putJ J p).b.length ≤ J.b.length + 65600:=by
 have:=zq9 p
 unfold putJ; simp only [List.length_append]; omega
theorem zcf (J : JN) (t v : Int) : (zaq J t v).b.length ≤ J.b.length + 65600:=by
 unfold zaq
 split
 ·have:=zpG (stJ J t v) (recA t v); rw [stJ_b] at this; exact this
 ·omega
theorem zb3 (J : JN) (t : Int) (e : GEntry) : (zaw J t e).b.length ≤ J.b.length + 65600:=by
 unfold zaw
 split
 ·have:=zpG (adJ J t e) (recE t e); rw [adJ_b] at this; exact this
 ·omega
theorem zji (J : JN) (n : Int) : (cutJ J n).b.length ≤ J.b.length + 65600:=by
 unfold cutJ
 split
 ·have:=zpG (cuJ J n) (recC n); rw [cuJ_b] at this; exact this
 ·omega
theorem zvC (b : List UInt8) (d n : Nat) (h : d ≤ b.length) : (zdO b d n).1.length ≤ b.length ∧ (zdO b d n).2 ≤ (zdO b d n).1.length:=by
 unfold zdO
 split
 ·exact ⟨Nat.le_refl _,h⟩
 ·simp only [List.length_take]; omega
theorem zt9 (J : JN) (keep : Int) (h : J.d ≤ J.b.length) : (crashJ J keep).b.length ≤ J.b.length ∧ (crashJ J keep).d ≤ (crashJ J keep).b.length:=by
 have hc : za9 J.b.length J.d keep ≤ J.b.length:=by unfold za9; omega
 have hl : (J.b.take (za9 J.b.length J.d keep)).length = za9 J.b.length J.d keep:=by rw [List.length_take]; omega
 have:=zvC (J.b.take (za9 J.b.length J.d keep)) (za9 J.b.length J.d keep) (zbM (allT 8 (J.b.take (za9 J.b.length J.d keep))).1 ⟨J.b.take (za9 J.b.length J.d keep),za9 J.b.length J.d keep,0,-1,[]⟩ 0).2 (by omega)
 unfold crashJ readJ
 simp only
 omega
@[simp] theorem zqb (J : JN) : (syncJ J).b = J.b:=id rfl
@[simp] theorem syncJ_d (J : JN) : (syncJ J).d = J.b.length:=id rfl
@[simp] theorem zb6 (J : JN) : (syncJ J).term = J.term:=id rfl
@[simp] theorem zlB (J : JN) : (syncJ J).vote = J.vote:=id rfl
@[simp] theorem zaZ (J : JN) : (syncJ J).log = J.log:=id rfl
@[simp] theorem syncJ_fold (J : JN) : (⟨J.b,J.b.length,J.term,J.vote,J.log⟩ : JN) = syncJ J:=rfl
@[simp] theorem zeroJ_fold : (⟨[],0,0,-1,[]⟩ : JN) = zeroJ:=rfl
@[simp] theorem zeroJ_b : zeroJ.b = []:=id rfl
@[simp] theorem zeroJ_d : zeroJ.d = 0:=id rfl
@[simp] theorem zeroJ_term : zeroJ.term = 0:=id rfl
@[simp] theorem zeroJ_vote : zeroJ.vote = -1:=id rfl
@[simp] theorem zeroJ_log : zeroJ.log = []:=id rfl
noncomputable def grow0 : JN × Nat:=(syncJ (zaq zeroJ 1 0),0)
def outL (l : List Int) : List GLogged:=l.map fun x=>⟨1,noteE x⟩
@[simp] theorem outL_length (a : List Int) : (outL a).length = a.length:=by simp [outL]
structure GrowI (p : JN × Nat) (l : List Int) : Prop where
 is : ∃ s,Grown p.1 (l.map noteE) s ∧ p.2 ≤ s
 bd : p.1.b.length ≤ 65600 * (l.length + 1)
theorem GrowI.zero : GrowI grow0 []:=⟨⟨0,Grown.zero,Nat.le_refl _⟩,by
 have:=zcf zeroJ 1 0
 simpa [grow0] using this⟩
theorem GrowI.next {p : JN × Nat} {l : List Int} (h : GrowI p l) (hl : l.length < 4096) (x : Int) : GrowI (zaw p.1 1 (noteE x),p.2) (l ++ [x]):=by
 obtain ⟨⟨s,h1,h2⟩,h3⟩:=h
 have:=zb3 p.1 1 (noteE x)
 refine ⟨⟨s,?_,h2⟩,by simp only [List.length_append,List.length_cons,List.length_nil]; omega⟩
 rw [List.map_append]
 exact h1.append (by simpa using hl) (zjZ x) (zlj x)
theorem GrowI.log {p : JN × Nat} {l : List Int} (h : GrowI p l) (hl : l.length ≤ 4096) : p.1.term = 1 ∧ p.1.vote = 0 ∧ p.1.log = outL l:=by
 obtain ⟨⟨s,h1,h2⟩,h3⟩:=h
 have:=h1.is (by simpa using hl)
 rw [List.map_map] at this
 exact this
end Go.Proofs.YtcpdgbncekdicaaGreat

namespace Go.Proofs.YtcpdgbncekdicaaGreat
open Go.Lift
set_option maxRecDepth 100000
theorem zfb (J : JN) (n : Int) : (cutJ J n).log = if cuE J n = 0 then J.log.take n.toNat else J.log:=by
 unfold cutJ
 by_cases h : cuE J n = 0
 ·rw [if_pos h,if_pos h]; unfold cuJ; rw [if_pos h]; rfl
 ·rw [if_neg h,if_neg h]
end Go.Proofs.YtcpdgbncekdicaaGreat

namespace Go.Proofs.YtcpdgbncekdicaaGreat
open Go.Lift
set_option maxRecDepth 100000
theorem zcs (J : JN) (n : Int) : (cutJ J n).term = J.term:=by
 unfold cutJ cuJ
 repeat' split
 all_goals rfl
theorem zgx (J : JN) (n : Int) : (cutJ J n).vote = J.vote:=by
 unfold cutJ cuJ
 repeat' split
 all_goals rfl
theorem NumJ.append {J : JN} (h : NumJ J) (t : Int) (e : GEntry) : NumJ (zaw J t e):=by
 refine ⟨?_,?_,?_,?_⟩ <;> simp only [zbz,zdD]
 ·exact h.t0
 ·exact h.t1
 ·exact h.v0
 ·exact h.v1
theorem NumJ.cut {J : JN} (h : NumJ J) (n : Int) : NumJ (cutJ J n):=by
 refine ⟨?_,?_,?_,?_⟩ <;> simp only [zcs,zgx]
 ·exact h.t0
 ·exact h.t1
 ·exact h.v0
 ·exact h.v1
theorem NumJ.sync {J : JN} (h : NumJ J) : NumJ (syncJ J):=⟨h.t0,h.t1,h.v0,h.v1⟩
structure MadeJ (J : JN) (n : Nat) : Prop where
 hist : ∃ rs s,Hist J rs s
 num : NumJ J
 bd : J.b.length ≤ 65600 * n
theorem MadeJ.zero : MadeJ zeroJ 0:=⟨⟨_,_,Hist.zero⟩,NumJ.zero,by simp⟩
theorem MadeJ.d_le {J : JN} {n : Nat} (h : MadeJ J n) : J.d ≤ J.b.length:=by obtain ⟨⟨_,_,h1⟩,_,_⟩:=h; exact h1.d_le
theorem MadeJ.setTerm {J : JN} {n : Nat} (h : MadeJ J n) {t v : Int} (h1 : In64 t) (h2 : In64 v) : MadeJ (zaq J t v) (n + 1):=by
 obtain ⟨⟨_,_,g1⟩,g2,g3⟩:=h
 have:=zcf J t v
 exact ⟨⟨_,_,g1.setTerm h1 h2⟩,g2.setTerm t v,by omega⟩
theorem MadeJ.append {J : JN} {n : Nat} (h : MadeJ J n) {t : Int} {e : GEntry} (h1 : In64 t) (h2 : GEntry.ok e) : MadeJ (zaw J t e) (n + 1):=by
 obtain ⟨⟨_,_,g1⟩,g2,g3⟩:=h
 have:=zb3 J t e
 exact ⟨⟨_,_,g1.append h1 h2⟩,g2.append t e,by omega⟩
theorem MadeJ.cut {J : JN} {n : Nat} (h : MadeJ J n) {k : Int} (h1 : In64 k) : MadeJ (cutJ J k) (n + 1):=by
 obtain ⟨⟨_,_,g1⟩,g2,g3⟩:=h
 have:=zji J k
 exact ⟨⟨_,_,g1.cut h1⟩,g2.cut k,by omega⟩
theorem MadeJ.sync {J : JN} {n : Nat} (h : MadeJ J n) : MadeJ (syncJ J) n:=by
 obtain ⟨⟨_,_,g1⟩,g2,g3⟩:=h
 exact ⟨⟨_,_,g1.sync⟩,g2.sync,g3⟩
end Go.Proofs.YtcpdgbncekdicaaGreat

namespace Go.Proofs.YtcpdgbncekdicaaGreat
open Go.Lift
set_option maxRecDepth 100000
end Go.Proofs.YtcpdgbncekdicaaGreat

namespace Go.Proofs.YtcpdgbncekdicaaGreat
open Go.Lift
set_option maxRecDepth 100000
theorem zn6 {J : JN} (h : J.log.length ≤ 4096) (p : List UInt8) : (recordJ J p).1.log.length ≤ 4096:=by
 have hst : ∀ t v,(stJ J t v).log.length ≤ 4096:=by intro t v; unfold stJ; split <;> exact h
 have had : ∀ t e,(adJ J t e).log.length ≤ 4096:=by
  intro t e; unfold adJ; split
  ·next h0=>have:=(zyj h0).2.2.2.1; simp; omega
  ·exact h
 have hcu : ∀ n,(cuJ J n).log.length ≤ 4096:=by
  intro n; unfold cuJ; split
  ·simp; omega
  ·exact h
 unfold recordJ
 repeat' split
 all_goals first | exact h | exact hst _ _ | exact had _ _ | exact hcu _
theorem zny : ∀ (rs : List (List UInt8)) (J : JN),J.log.length ≤ 4096 → (finR rs J).log.length ≤ 4096
 | [],_,h=>h
 | p :: rs,J,h=>zny rs _ (zn6 h p)
theorem Hist.log4 {J : JN} {rs : List (List UInt8)} {s : Nat} (h : Hist J rs s) : J.log.length ≤ 4096:=by
 rw [h.eq,zxA]; exact zny rs zeroJ (by simp)
structure LiveJ (J : JN) (n : Nat) : Prop where
 hist : ∃ rs s,Hist J rs s
 bd : J.b.length ≤ 65600 * n
theorem LiveJ.log {J : JN} {n : Nat} (h : LiveJ J n) : J.log.length ≤ 4096:=by obtain ⟨⟨_,_,h1⟩,_⟩:=h; exact h1.log4
theorem LiveJ.d_le {J : JN} {n : Nat} (h : LiveJ J n) : J.d ≤ J.b.length:=by obtain ⟨⟨_,_,h1⟩,_⟩:=h; exact h1.d_le
theorem LiveJ.setTerm {J : JN} {n : Nat} (h : LiveJ J n) {t v : Int} (h1 : In64 t) (h2 : In64 v) : LiveJ (zaq J t v) (n + 1):=by
 obtain ⟨⟨_,_,g1⟩,g3⟩:=h
 have:=zcf J t v
 exact ⟨⟨_,_,g1.setTerm h1 h2⟩,by omega⟩
theorem LiveJ.append {J : JN} {n : Nat} (h : LiveJ J n) {t : Int} {e : GEntry} (h1 : In64 t) (h2 : GEntry.ok e) : LiveJ (zaw J t e) (n + 1):=by
 obtain ⟨⟨_,_,g1⟩,g3⟩:=h
 have:=zb3 J t e
 exact ⟨⟨_,_,g1.append h1 h2⟩,by omega⟩
theorem LiveJ.cut {J : JN} {n : Nat} (h : LiveJ J n) {k : Int} (h1 : In64 k) : LiveJ (cutJ J k) (n + 1):=by
 obtain ⟨⟨_,_,g1⟩,g3⟩:=h
 have:=zji J k
 exact ⟨⟨_,_,g1.cut h1⟩,by omega⟩
theorem LiveJ.sync {J : JN} {n : Nat} (h : LiveJ J n) : LiveJ (syncJ J) n:=by
 obtain ⟨⟨_,_,g1⟩,g3⟩:=h
 exact ⟨⟨_,_,g1.sync⟩,g3⟩
theorem LiveJ.crash {J : JN} {n : Nat} (h : LiveJ J n) (keep : Int) : LiveJ (crashJ J keep) n:=by
 have hd:=h.d_le
 obtain ⟨⟨_,_,g1⟩,g3⟩:=h
 obtain ⟨k,_,_,g⟩:=g1.crash keep
 have:=(zt9 J keep hd).1
 exact ⟨⟨_,_,g⟩,by omega⟩
theorem NumJ.recordJ {J : JN} (h : NumJ J) (p : List UInt8) : NumJ (recordJ J p).1:=by
 have hst : ∀ t v,NumJ (stJ J t v):=by
  intro t v; unfold stJ; split
  ·next h0=>have:=zvw h0; exact ⟨by simp only; omega,by simp only; omega,by simp only; omega,by simp only; omega⟩
  ·exact h
 have had : ∀ t e,NumJ (adJ J t e):=by
  intro t e; unfold adJ; split
  ·exact ⟨h.t0,h.t1,h.v0,h.v1⟩
  ·exact h
 have hcu : ∀ n,NumJ (cuJ J n):=by
  intro n; unfold cuJ; split
  ·exact ⟨h.t0,h.t1,h.v0,h.v1⟩
  ·exact h
 unfold Proofs.YtcpdgbncekdicaaGreat.recordJ
 repeat' split
 all_goals first | exact h | exact hst _ _ | exact had _ _ | exact hcu _
theorem NumJ.finR : ∀ (rs : List (List UInt8)) {J : JN},NumJ J → NumJ (finR rs J)
 | [],_,h=>h
 | p :: rs,J,h=>NumJ.finR rs (h.recordJ p)
theorem LiveJ.num {J : JN} {n : Nat} (h : LiveJ J n) : NumJ J:=by
 obtain ⟨⟨rs,s,g⟩,_⟩:=h
 have:=NumJ.finR rs NumJ.zero
 rw [g.eq]
 exact ⟨this.t0,this.t1,this.v0,this.v1⟩
theorem LiveJ.zero : LiveJ zeroJ 0:=⟨⟨_,_,Hist.zero⟩,by simp⟩
theorem LiveJ.more {J : JN} {n m : Nat} (h : LiveJ J n) (hm : n ≤ m) : LiveJ J m:=⟨h.hist,by have:=h.bd; omega⟩
end Go.Proofs.YtcpdgbncekdicaaGreat

namespace Go.Proofs.YtcpdgbncekdicaaGreat
open Go.Lift
theorem zvG (a b c d e f g h i : Int) : V.agg [.int .i64 a,.int .i64 b,.int .i64 c,.int .i64 d,.int .i64 e,.int .i64 f,.int .i64 g,.int .i64 h,.int .i64 i] = zaB ⟨a,b,c,d,e,f,g,h,i⟩:=rfl
attribute [simp low] zvG
def spoilt (e : GEntry) (w b : Int) : GEntry :=
 if w % 9 = 0 then { e with Kind:=b } else if w % 9 = 1 then { e with Tick:=b } else if w % 9 = 2 then { e with Tenant:=b } else if w % 9 = 3 then { e with Cell:=b } else if w % 9 = 4 then { e with Other:=b }
 else if w % 9 = 5 then { e with Epoch:=b } else if w % 9 = 6 then { e with From:=b } else if w % 9 = 7 then { e with Until:=b } else { e with N:=b }
theorem zvu {e : GEntry} (h : GEntry.ok e) (w : Int) {b : Int} (hb : In64 b) : GEntry.ok (spoilt e w b):=by
 obtain ⟨h1,h2,h3,h4,h5,h6,h7,h8,h9⟩:=h
 unfold spoilt
 repeat' split
 all_goals exact ⟨by assumption,by assumption,by assumption,by assumption,by assumption,by assumption,by assumption,by assumption,by assumption⟩
noncomputable def ziQ:=fam (fun i : GEntry × Int × Int=>[zaB i.1,.int .i64 i.2.1,.int .i64 i.2.2]) (fun _=>[]) (fun _=>True) (fun i=>⟨zaB (spoilt i.1 i.2.1 i.2.2),[]⟩)
@[simp] theorem spoiltSp_eq {e : GEntry} {w b : Int}  : ziQ ([zaB e,.int .i64 w,.int .i64 b]) ([]) = some (⟨zaB (spoilt e w b),[]⟩) :=
 zag (by rintro ⟨a0,a1,a2⟩ ⟨b0,b1,b2⟩ h h' <;> simp at h h' <;> simp_all) (e,w,b) trivial
set_option maxHeartbeats 40000000 in
theorem zp9 : Lift.Spec Tryz.prog 48 ziQ:=by
 refine zaj (C:=CM1) zac zyf follows Tryz.func48 (by kernel_rfl) rfl (by kernel_rfl) rfl ?_
 rintro ⟨e,w,b⟩ _
 refine ⟨by simp,?_⟩
 intro r hr
 have h1:=Int.emod_nonneg w (show (9 : Int) ≠ 0 by decide)
 have h2:=Int.emod_lt_of_pos w (show (0 : Int) < 9 by decide)
 have hd : ∀ m : Int,w % 9 = m → spoilt e w b = if m = 0 then { e with Kind:=b } else if m = 1 then { e with Tick:=b } else if m = 2 then { e with Tenant:=b } else if m = 3 then { e with Cell:=b } else if m = 4 then { e with Other:=b }
  else if m = 5 then { e with Epoch:=b } else if m = 6 then { e with From:=b } else if m = 7 then { e with Until:=b } else { e with N:=b }:=fun m hm=>by rw [← hm]; rfl
 have h9 : w % 9 = 0 ∨ w % 9 = 1 ∨ w % 9 = 2 ∨ w % 9 = 3 ∨ w % 9 = 4 ∨ w % 9 = 5 ∨ w % 9 = 6 ∨ w % 9 = 7 ∨ w % 9 = 8:=by omega
 rcases h9 with h | h | h | h | h | h | h | h | h
 all_goals
  have hs:=hd _ h
  simp [GEntry.cells,h]
  rw [hr]; refine zaa rfl ?_ rfl
  simp [hs]
end Go.Proofs.YtcpdgbncekdicaaGreat

namespace Go.Proofs.YtcpdgbncekdicaaGreat
open Go.Lift
set_option maxRecDepth 100000
structure RN where
 J : JN
 id : Int
 n : Int
 role : Int
 commit : Int
 votes : List Bool
 next : List Int
 mt : List Int
def othL (id n : Int) : List Int:=idxTo (fun i=>decide ((i : Int) ≠ id)) n.toNat
noncomputable def termR (R : RN) (t v : Int) : RN:={ R with J:=syncJ (zaq R.J t v) }
def nxR (R : RN) (to : Int) : Int:=R.next.getD to.toNat 0
def appM (R : RN) (to : Int) : GMessage:=⟨3,R.id,to,R.J.term,nxR R to,(logAt R.J.log (nxR R to - 1)).Term,R.commit,false,R.J.log.drop (nxR R to).toNat⟩
def zbS (R : RN) : List GMessage:=(othL R.id R.n).map (appM R)
def leadR (R : RN) : RN:={ R with role:=3,next:=List.replicate R.n.toNat (R.J.log.length : Int),mt:=List.replicate R.n.toNat 0 }
def stN (R : RN) (m : Int) : Nat:=((othL R.id R.n).filter fun i=>decide (m ≤ R.mt.getD i.toNat 0)).length
def advGo (R : RN) : Nat → Int
 | 0=>R.commit
 | k + 1=>if (k : Int) + 1 ≤ R.commit then R.commit else if (logAt R.J.log k).Term ≠ R.J.term then R.commit else if R.n < 2 * (1 + (stN R ((k : Int) + 1) : Int)) then (k : Int) + 1 else advGo R k
def advR (R : RN) : RN:={ R with commit:=advGo R R.J.log.length }
def cntT (l : List Bool) : Nat:=(l.filter id).length
@[simp] theorem JN.eta (J : JN) : (⟨J.b,J.d,J.term,J.vote,J.log⟩ : JN) = J:=rfl
noncomputable def candR (R : RN) : RN:={ termR R (R.J.term + 1) R.id with role:=2,votes:=(List.replicate R.n.toNat false).set R.id.toNat true }
noncomputable def campR (R : RN) : RN:=if 1073741824 ≤ R.J.term then R else if R.n = 1 then leadR (candR R) else candR R
noncomputable def campM (R : RN) : List GMessage:=if 1073741824 ≤ R.J.term then [] else (othL R.id R.n).map fun i=>⟨1,R.id,i,R.J.term + 1,R.J.log.length,lastT R.J.log,0,false,[]⟩
noncomputable def propE (R : RN) (e : GEntry) : Int:=if R.role ≠ 3 then 4 else adE R.J R.J.term e
noncomputable def propR (R : RN) (e : GEntry) : RN:=if propE R e = 0 then advR { R with J:=syncJ (zaw R.J R.J.term e) } else R
noncomputable def propM (R : RN) (e : GEntry) : List GMessage:=if propE R e = 0 then zbS (propR R e) else []
def beatM (R : RN) : List GMessage:=if R.role = 3 then zbS R else []
def entsB : Int → Int → List GLogged → Bool
 | _,_,[]=>true
 | last,T,e :: es=>zbj e.Entry && (decide (last ≤ e.Term) && (decide (e.Term ≤ T) && entsB e.Term T es))
def goodM (R : RN) (m : GMessage) : Prop:=m.To = R.id ∧ 0 ≤ m.From ∧ m.From < R.n ∧ m.From ≠ R.id ∧ 1 ≤ m.Kind ∧ m.Kind ≤ 4 ∧ 1 ≤ m.Term ∧ m.Term ≤ 1073741824 ∧ 0 ≤ m.Index ∧ m.Index ≤ 4096 ∧ 0 ≤ m.PrevTerm ∧ m.PrevTerm ≤ m.Term ∧ 0 ≤ m.Commit ∧ m.Commit ≤ 4096
instance (R : RN) (m : GMessage) : Decidable (goodM R m):=by unfold goodM; infer_instance
def zaI (R : RN) (m : GMessage) : Bool:=decide (goodM R m) && (if m.Kind = 3 then ((decide (m.PrevTerm = 0) == decide (m.Index = 0)) && (decide ((m.Entries.length : Int) ≤ 4096 - m.Index) && entsB (max 1 m.PrevTerm) m.Term m.Entries)) else true)
def ansM (R : RN) (m : GMessage) (i : Int) (ok : Bool) : GMessage:=⟨4,R.id,m.From,R.J.term,i,0,0,ok,[]⟩
def zbh (R : RN) (m : GMessage) : Bool:=decide (m.Term = R.J.term ∧ (R.J.vote = -1 ∨ R.J.vote = m.From) ∧ (lastT R.J.log < m.PrevTerm ∨ m.PrevTerm = lastT R.J.log ∧ (R.J.log.length : Int) ≤ m.Index))
noncomputable def voteR (R : RN) (m : GMessage) : RN:=if zbh R m = true then termR R R.J.term m.From else R
noncomputable def voteM (R : RN) (m : GMessage) : List GMessage:=[⟨2,R.id,m.From,(voteR R m).J.term,0,0,0,zbh R m,[]⟩]
def zb7 (R : RN) (m : GMessage) : Bool:=decide (R.role = 2 ∧ m.Term = R.J.term ∧ m.OK = true)
def zcD (R : RN) (m : GMessage) : RN:={ R with votes:=R.votes.set m.From.toNat true }
def zcT (R : RN) (m : GMessage) : RN:=if zb7 R m = true then (if 2 * (cntT (zcD R m).votes : Int) ≤ R.n then zcD R m else leadR (zcD R m)) else R
def zcV (R : RN) (m : GMessage) : List GMessage:=if zb7 R m = true then (if 2 * (cntT (zcD R m).votes : Int) ≤ R.n then [] else zbS (leadR (zcD R m))) else []
def fitGo (log : List GLogged) : Nat → List GLogged → Nat
 | _,[]=>0
 | i,e :: es=>if i < log.length ∧ (logAt log i).Term = e.Term then fitGo log (i + 1) es + 1 else 0
noncomputable def appAll (J : JN) : List GLogged → JN
 | []=>J
 | e :: es=>appAll (zaw J e.Term e.Entry) es
noncomputable def fillJ (J : JN) (i : Int) (es : List GLogged) : JN:=syncJ (appAll (if i < J.log.length then cutJ J i else J) es)
def holeB (R : RN) (m : GMessage) : Bool:=decide ((R.J.log.length : Int) < m.Index ∨ 0 < m.Index ∧ (logAt R.J.log (m.Index - 1)).Term ≠ m.PrevTerm)
def fitN (R : RN) (m : GMessage) : Nat:=fitGo R.J.log m.Index.toNat m.Entries
noncomputable def takeR (R : RN) (m : GMessage) : RN :=
 if m.Term < R.J.term then R else if R.role = 3 then R else if holeB R m = true then { R with role:=1 } else
 if fitN R m < m.Entries.length then (if m.Index + fitN R m < R.commit then { R with role:=1 } else
  { R with role:=1,J:=fillJ R.J (m.Index + fitN R m) (m.Entries.drop (fitN R m)),commit:=max R.commit (min m.Commit (m.Index + m.Entries.length)) })
 else { R with role:=1,commit:=max R.commit (min m.Commit (m.Index + m.Entries.length)) }
noncomputable def takeM (R : RN) (m : GMessage) : List GMessage :=
 if m.Term < R.J.term then [ansM R m 0 false] else if R.role = 3 then [] else if holeB R m = true then [ansM R m (min (R.J.log.length : Int) (m.Index - 1)) false] else
 if fitN R m < m.Entries.length ∧ m.Index + fitN R m < R.commit then [] else [ansM R m (m.Index + m.Entries.length) true]
def backR (R : RN) (m : GMessage) : RN:={ R with next:=R.next.set m.From.toNat (max 0 (min (nxR R m.From - 1) m.Index)) }
def mtR (R : RN) (to : Int) : Int:=R.mt.getD to.toNat 0
def zfO (R : RN) (m : GMessage) : RN:={ R with mt:=R.mt.set m.From.toNat (max (mtR R m.From) m.Index),next:=R.next.set m.From.toNat (max (mtR R m.From) m.Index) }
def zaT (R : RN) (m : GMessage) : RN:=if R.role ≠ 3 ∨ m.Term ≠ R.J.term then R else if m.OK = false then backR R m else if m.Index ≤ R.J.log.length then advR (zfO R m) else R
def zbE (R : RN) (m : GMessage) : List GMessage:=if R.role ≠ 3 ∨ m.Term ≠ R.J.term then [] else if m.OK = false then [appM (backR R m) m.From] else []
noncomputable def meetR (R : RN) (m : GMessage) : RN:=if R.J.term < m.Term then { termR R m.Term (-1) with role:=1 } else R
noncomputable def handR (R : RN) (m : GMessage) : RN:=if zaI R m = true then (if m.Kind = 1 then voteR (meetR R m) m else if m.Kind = 2 then zcT (meetR R m) m else if m.Kind = 3 then takeR (meetR R m) m else zaT (meetR R m) m) else R
noncomputable def handM (R : RN) (m : GMessage) : List GMessage:=if zaI R m = true then (if m.Kind = 1 then voteM (meetR R m) m else if m.Kind = 2 then zcV (meetR R m) m else if m.Kind = 3 then takeM (meetR R m) m else zbE (meetR R m) m) else []
noncomputable def zeF (R : RN) (keep : Int) : RN:={ R with J:=crashJ R.J keep,role:=1,commit:=0,votes:=[] }
noncomputable def newR (id n : Int) : RN:=⟨zeroJ,id,n,1,0,[],[],[]⟩
def rr (id n role commit : Int) (v x y : V) : AObj:=⟨74,8,[[.ptr 1 0 0,.int .i64 id,.int .i64 n,.int .i64 role,.int .i64 commit,v,x,y]],true,0,.rw⟩
@[simp] theorem rr_fold (id n role commit : Int) (v x y : V) : (⟨74,8,[[.ptr 1 0 0,.int .i64 id,.int .i64 n,.int .i64 role,.int .i64 commit,v,x,y]],true,0,.rw⟩ : AObj) = rr id n role commit v x y:=rfl
@[simp] theorem rr_inj {a b c d a' b' c' d' : Int} {v x y v' x' y' : V} : rr a b c d v x y = rr a' b' c' d' v' x' y' ↔ a = a' ∧ b = b' ∧ c = c' ∧ d = d' ∧ v = v' ∧ x = x' ∧ y = y':=by simp only [rr,AObj.mk.injEq,List.cons.injEq,V.int.injEq,true_and,and_true]
@[simp] theorem rr_elems (a b c d : Int) (v x y : V) : (rr a b c d v x y).elems = [[.ptr 1 0 0,.int .i64 a,.int .i64 b,.int .i64 c,.int .i64 d,v,x,y]]:=rfl
@[simp] theorem rr_et (a b c d : Int) (v x y : V) : (rr a b c d v x y).et = 74:=rfl
@[simp] theorem rr_es (a b c d : Int) (v x y : V) : (rr a b c d v x y).es = 8:=rfl
@[simp] theorem rr_tight (a b c d : Int) (v x y : V) : (rr a b c d v x y).tight = true:=rfl
@[simp] theorem rr_md (a b c d : Int) (v x y : V) : (rr a b c d v x y).md = .rw:=rfl
@[simp] theorem rr_fl (a b c d : Int) (v x y : V) : (rr a b c d v x y).fl = 0:=rfl
@[simp] theorem rr_linked (l : List Nat) (a b c d : Int) (v x y : V) : zbp l (rr a b c d v x y) = ((posOf 1 l).isSome && (zbX l v && (zbX l x && zbX l y))):=by simp [zbp,zbX,V.isTree,V.closed]
@[simp] theorem rj_linked (l : List Nat) (J : JN) : zbp l (rjO J) = true:=by simp [zbp,zbX,V.isTree,V.closed]
def boO (l : List Bool) : AObj:=⟨4,1,zaC l,false,2,.rw⟩
def inO (l : List Int) : AObj:=⟨3,1,zaF l,false,2,.rw⟩
@[simp] theorem boO_inj {l m : List Bool} : boO l = boO m ↔ l = m:=by simp [boO]
@[simp] theorem bo_elems (l : List Bool) : (boO l).elems = zaC l:=rfl
@[simp] theorem bo_et (l : List Bool) : (boO l).et = 4:=rfl
@[simp] theorem bo_es (l : List Bool) : (boO l).es = 1:=rfl
@[simp] theorem bo_tight (l : List Bool) : (boO l).tight = false:=rfl
@[simp] theorem bo_md (l : List Bool) : (boO l).md = .rw:=rfl
@[simp] theorem bo_fl (l : List Bool) : (boO l).fl = 2:=rfl
@[simp] theorem bo_fold (l : List Bool) : (⟨4,1,zaC l,false,2,.rw⟩ : AObj) = boO l:=rfl
@[simp] theorem bo_linked (r : List Nat) (l : List Bool) : zbp r (boO l) = true:=rfl
@[simp] theorem bo_names (l : List Bool) (f : Nat → Nat) : (boO l).ren f = boO l:=AObj.ren_nl rfl
@[simp] theorem bo_within (l : List Bool) (D : Nat → Bool) : (boO l).within D = true:=rfl
@[simp] theorem bo_scalar (l : List Bool) : zbu (boO l) = true:=rfl
def boT (t : Bool) (l : List Bool) : AObj:=⟨4,1,zaC l,t,2,.rw⟩
@[simp] theorem boT_inj {t u : Bool} {l m : List Bool} : boT t l = boT u m ↔ l = m ∧ t = u:=by simp [boT]
@[simp] theorem bt_elems (t : Bool) (l : List Bool) : (boT t l).elems = zaC l:=rfl
@[simp] theorem bt_et (t : Bool) (l : List Bool) : (boT t l).et = 4:=rfl
@[simp] theorem bt_es (t : Bool) (l : List Bool) : (boT t l).es = 1:=rfl
@[simp] theorem bt_tight (t : Bool) (l : List Bool) : (boT t l).tight = t:=rfl
@[simp] theorem bt_md (t : Bool) (l : List Bool) : (boT t l).md = .rw:=rfl
@[simp] theorem bt_fl (t : Bool) (l : List Bool) : (boT t l).fl = 2:=rfl
@[simp] theorem bt_foldt (l : List Bool) : (⟨4,1,zaC l,true,2,.rw⟩ : AObj) = boT true l:=rfl
@[simp] theorem bt_linked (r : List Nat) (t : Bool) (l : List Bool) : zbp r (boT t l) = true:=rfl
@[simp] theorem bt_names (t : Bool) (l : List Bool) (f : Nat → Nat) : (boT t l).ren f = boT t l:=AObj.ren_nl rfl
@[simp] theorem bt_within (t : Bool) (l : List Bool) (D : Nat → Bool) : (boT t l).within D = true:=rfl
@[simp] theorem bt_scalar (t : Bool) (l : List Bool) : zbu (boT t l) = true:=rfl
@[simp] theorem inO_inj {l m : List Int} : inO l = inO m ↔ l = m:=by simp [inO]
@[simp] theorem in_elems (l : List Int) : (inO l).elems = zaF l:=rfl
@[simp] theorem in_et (l : List Int) : (inO l).et = 3:=rfl
@[simp] theorem in_es (l : List Int) : (inO l).es = 1:=rfl
@[simp] theorem in_tight (l : List Int) : (inO l).tight = false:=rfl
@[simp] theorem in_md (l : List Int) : (inO l).md = .rw:=rfl
@[simp] theorem in_fl (l : List Int) : (inO l).fl = 2:=rfl
@[simp] theorem in_fold (l : List Int) : (⟨3,1,zaF l,false,2,.rw⟩ : AObj) = inO l:=rfl
@[simp] theorem in_linked (r : List Nat) (l : List Int) : zbp r (inO l) = true:=rfl
@[simp] theorem in_names (l : List Int) (f : Nat → Nat) : (inO l).ren f = inO l:=AObj.ren_nl rfl
@[simp] theorem in_within (l : List Int) (D : Nat → Bool) : (inO l).within D = true:=rfl
@[simp] theorem in_scalar (l : List Int) : zbu (inO l) = true:=rfl
@[simp] theorem ntOk_iteP (p : Prop) [Decidable p] (rows : List (List V)) : ntOk (if p then 2 else 1) rows = true:=by split <;> rfl
@[simp] theorem min_iteP (p : Prop) [Decidable p] : min 1 (if p then 2 else 1) = 1:=by split <;> rfl
@[simp] theorem all_lt5 {p : Nat → Prop} : (∀ n,n < 5 → p n) ↔ p 0 ∧ p 1 ∧ p 2 ∧ p 3 ∧ p 4:=by
 constructor
 ·intro h; exact ⟨h 0 (by omega),h 1 (by omega),h 2 (by omega),h 3 (by omega),h 4 (by omega)⟩
 ·rintro ⟨h0,h1,h2,h3,h4⟩ n hn
  have : n = 0 ∨ n = 1 ∨ n = 2 ∨ n = 3 ∨ n = 4:=by omega
  rcases this with rfl | rfl | rfl | rfl | rfl <;> assumption
end Go.Proofs.YtcpdgbncekdicaaGreat

namespace Go.Proofs.YtcpdgbncekdicaaGreat
open Go.Lift
set_option maxRecDepth 100000
noncomputable def CQ2A:=mkC [(97,zmz),(111,zmG)]
theorem zty : zai Tryz.prog CQ2A:=zat (all_cons zsA (all_cons zsD all_nil))
@[simp] theorem CQ2A_1 : CQ2A 97 = zmz:=rfl
@[simp] theorem CQ2A_2 : CQ2A 111 = zmG:=rfl
noncomputable def ziI:=fam (fun _ : JN=>[V.ptr 0 0 0]) (fun i=>[rjO i]) (fun i=>(i.b.length ≤ 140737488355328) ∧ (i.log.length ≤ 1000000000)) (fun i=>⟨.ptr 1 0 0,[rjO i,rjO i]⟩)
@[simp] theorem rjCopySp_eq {J : JN} (h1 : J.b.length ≤ 140737488355328) (h2 : J.log.length ≤ 1000000000) : ziI ([V.ptr 0 0 0]) ([rjO J]) = some (⟨.ptr 1 0 0,[rjO J,rjO J]⟩) :=
 zag (by intro a b h h' <;> simp at h h' <;> simp_all) J ⟨h1,h2⟩
theorem zpN : Lift.Spec Tryz.prog 57 ziI:=by
 refine zad [(0,0)] (C:=CQ2A) zac zty follows Tryz.func57 (by kernel_rfl) rfl (by kernel_rfl) rfl ?_
 rintro J ⟨h1,h2⟩
 try simp only at h1 h2
 refine ⟨by simp,?_⟩
 intro r hr
 have h3 : (J.log.length : Int) * 80 ≤ 140737488355328:=by omega
 have h4 : (J.log.length : Int) ≤ 140737488355328:=by omega
 simp [h1,h3,h4]
 (repeat refine dr ?_)
 rw [hr]
 refine retE [.inr 21] [] [] [.inl 0,.inr 2] [.inl 0,.inr 2] rfl ?_
 simp
noncomputable def zdL:=fam (fun _ : JN=>[V.ptr 0 0 0]) (fun i=>[rjO i]) (fun i=>(i.b.length ≤ 4611686018427387904)) (fun i=>⟨.tup [],[rjO (syncJ i)]⟩)
@[simp] theorem rjSyncSp_eq {J : JN} (h1 : J.b.length ≤ 4611686018427387904) : zdL ([V.ptr 0 0 0]) ([rjO J]) = some (⟨.tup [],[rjO (syncJ J)]⟩) :=
 zag (by intro a b h h' <;> simp at h h' <;> simp_all) J h1
theorem zgh : Lift.Spec Tryz.prog 84 zdL:=by
 refine zad [] (C:=CQ2A) zac zty follows Tryz.func84 (by kernel_rfl) rfl (by kernel_rfl) rfl ?_
 rintro J h1
 try simp only at h1
 refine ⟨by simp,?_⟩
 intro r hr
 simp [h1]
 rw [hr]
 refine retC [] [.inl 0] [] rfl ?_
 simp [syncJ]
noncomputable def zcm:=fam (fun _ : JN × Int × Int × Int × Int × (List Bool) × (List Int) × (List Int) × Nat × Nat × Nat × Bool=>[V.ptr 0 0 0]) (fun i=>[rr i.2.1 i.2.2.1 i.2.2.2.1 i.2.2.2.2.1 (.own 2 0 i.2.2.2.2.2.2.2.2.1) (.own 3 0 i.2.2.2.2.2.2.2.2.2.1) (.own 4 0 i.2.2.2.2.2.2.2.2.2.2.1),rjO i.1,boT i.2.2.2.2.2.2.2.2.2.2.2 i.2.2.2.2.2.1,inO i.2.2.2.2.2.2.1,inO i.2.2.2.2.2.2.2.1]) (fun i=>(i.2.2.2.2.2.2.2.2.1 = i.2.2.2.2.2.1.length) ∧ (i.2.2.2.2.2.2.2.2.2.1 = i.2.2.2.2.2.2.1.length) ∧ (i.2.2.2.2.2.2.2.2.2.2.1 = i.2.2.2.2.2.2.2.1.length) ∧ (0 ≤ i.2.2.1) ∧ (i.2.2.1 ≤ 5)) (fun i=>⟨.sl 2 1 (zaF (othL i.2.1 i.2.2.1)),[rr i.2.1 i.2.2.1 i.2.2.2.1 i.2.2.2.2.1 (.own 2 0 i.2.2.2.2.2.2.2.2.1) (.own 3 0 i.2.2.2.2.2.2.2.2.2.1) (.own 4 0 i.2.2.2.2.2.2.2.2.2.2.1),rjO i.1,boT i.2.2.2.2.2.2.2.2.2.2.2 i.2.2.2.2.2.1,inO i.2.2.2.2.2.2.1,inO i.2.2.2.2.2.2.2.1]⟩)
@[simp] theorem zmD {J : JN} {id n role commit : Int} {votes : List Bool} {next mt : List Int} {a b c : Nat} {tv : Bool} (h1 : a = votes.length) (h2 : b = next.length) (h3 : c = mt.length) (h4 : 0 ≤ n) (h5 : n ≤ 5) : zcm ([V.ptr 0 0 0]) ([rr id n role commit (.own 2 0 a) (.own 3 0 b) (.own 4 0 c),rjO J,boT tv votes,inO next,inO mt]) = some (⟨.sl 2 1 (zaF (othL id n)),[rr id n role commit (.own 2 0 a) (.own 3 0 b) (.own 4 0 c),rjO J,boT tv votes,inO next,inO mt]⟩) :=
 zag (by rintro ⟨a0,a1,a2,a3,a4,a5,a6,a7,a8,a9,a10,a11⟩ ⟨b0,b1,b2,b3,b4,b5,b6,b7,b8,b9,b10,b11⟩ h h' <;> simp at h h' <;> simp_all) (J,id,n,role,commit,votes,next,mt,a,b,c,tv) ⟨h1,h2,h3,h4,h5⟩
def oeB (id : Int) (i : Nat) : Bool:=decide ((i : Int) ≠ id)
theorem zuY (id n : Int) : othL id n = idxTo (oeB id) n.toNat:=rfl
def otSt (tv : Bool) (J : JN) (id n role commit : Int) (votes : List Bool) (next mt : List Int) (i : Nat) : St:=mkSt [(0,.ptr 0 0 0),(3,.own 5 0 (idxTo (oeB id) i).length),(4,.int .i64 i)] [(0,rr id n role commit (.own 2 0 votes.length) (.own 3 0 next.length) (.own 4 0 mt.length)),(1,rjO J),(2,boT tv votes),(3,inO next),(4,inO mt),(5,inO (idxTo (oeB id) i))] 6
set_option maxHeartbeats 4000000 in
theorem zex : Lift.Spec Tryz.prog 81 zcm:=by
 refine zad [] (C:=C0) zac C0_ok follows Tryz.func81 (by kernel_rfl) rfl (by kernel_rfl) rfl ?_
 rintro ⟨J,id,n,role,commit,votes,next,mt,a,b,c,tv⟩ ⟨ha,hb,hc,h1,h2⟩
 try simp only at ha hb hc h1 h2
 refine ⟨by simp,?_⟩
 intro r hr
 subst ha hb hc
 simp
 refine zal (otSt tv J id n role commit votes next mt) (fun i=>i ≤ n.toNat) (fun i=>n.toNat - i) 0 ?_ (Nat.zero_le _) ?_
 ·refine (zcw 3 500 (sz:=1) (inO []) ?_ ?_ rfl).trans (zak [.inl 0,.inl 1,.inl 2,.inl 3,.inl 4,.inl 500] ?_ ?_ ?_ ?_) <;> simp [zk7]
 ·intro i hi
  obtain ⟨q1,q2⟩:=zu4 (zjO (oeB id) i) (by omega)
  by_cases hik : (i : Int) < n
  ·have w4 : IntKind.i64.wrap ((i : Int) + 1) = (i : Int) + 1:=w64
   by_cases he : (i : Int) = id
   ·have hp : oeB id i = false:=by simp [oeB,he]
    simp [otSt,hik,eq_true he]
    refine Again.mk (i + 1) (by exact (by omega : i + 1 ≤ n.toNat)) (by show n.toNat - (i + 1) < n.toNat - i; omega) ?_
    refine zak [.inl 0,.inl 1,.inl 2,.inl 3,.inl 4,.inr 3] ?_ ?_ ?_ ?_ <;> simp [w4,zux hp]
   ·have hp : oeB id i = true:=by simp [oeB,he]
    simp [otSt,hik,he,q1,q2]
    refine Again.mk (i + 1) (by exact (by omega : i + 1 ≤ n.toNat)) (by show n.toNat - (i + 1) < n.toNat - i; omega) ?_
    refine zak [.inl 0,.inl 1,.inl 2,.inl 3,.inl 4,.inr 3] ?_ ?_ ?_ ?_ <;> simp [w4,zuz hp,← zf9]
  ·have e : i = n.toNat:=by omega
   simp [otSt,hik]
   rw [hr]
   refine retE [.inr 2] [] [] [] [.inl 0,.inl 1,.inl 2,.inl 3,.inl 4] rfl ?_
   simp [zuY,← e]
@[simp] theorem rrOthers_o {J : JN} {id n role commit : Int} {votes : List Bool} {next mt : List Int} {a b c : Nat} (ha : a = votes.length) (hb : b = next.length) (hc : c = mt.length) (h1 : 0 ≤ n) (h2 : n ≤ 5) :
 zcm [V.ptr 0 0 0] [rr id n role commit (.own 2 0 a) (.own 3 0 b) (.own 4 0 c),rjO J,boO votes,inO next,inO mt] = some ⟨.sl 2 1 (zaF (othL id n)),[rr id n role commit (.own 2 0 a) (.own 3 0 b) (.own 4 0 c),rjO J,boO votes,inO next,inO mt]⟩:=zmD (tv:=false) ha hb hc h1 h2
end Go.Proofs.YtcpdgbncekdicaaGreat

namespace Go.Proofs.YtcpdgbncekdicaaGreat
open Go.Lift
set_option maxRecDepth 100000
noncomputable def zg0:=fam (fun _ : JN × Int × Int × Int × Int × (List Bool) × (List Int) × (List Int) × Nat × Nat × Nat=>[V.ptr 0 0 0]) (fun i=>[rr i.2.1 i.2.2.1 i.2.2.2.1 i.2.2.2.2.1 (.own 2 0 i.2.2.2.2.2.2.2.2.1) (.own 3 0 i.2.2.2.2.2.2.2.2.2.1) (.own 4 0 i.2.2.2.2.2.2.2.2.2.2),rjO i.1,boO i.2.2.2.2.2.1,inO i.2.2.2.2.2.2.1,inO i.2.2.2.2.2.2.2.1]) (fun i=>(i.2.2.2.2.2.2.2.2.1 = i.2.2.2.2.2.1.length) ∧ (i.2.2.2.2.2.2.2.2.2.1 = i.2.2.2.2.2.2.1.length) ∧ (i.2.2.2.2.2.2.2.2.2.2 = i.2.2.2.2.2.2.2.1.length) ∧ (i.2.2.2.2.2.1.length ≤ 1000000)) (fun i=>⟨.int .i64 (cntT i.2.2.2.2.2.1 : Nat),[rr i.2.1 i.2.2.1 i.2.2.2.1 i.2.2.2.2.1 (.own 2 0 i.2.2.2.2.2.2.2.2.1) (.own 3 0 i.2.2.2.2.2.2.2.2.2.1) (.own 4 0 i.2.2.2.2.2.2.2.2.2.2),rjO i.1,boO i.2.2.2.2.2.1,inO i.2.2.2.2.2.2.1,inO i.2.2.2.2.2.2.2.1]⟩)
@[simp] theorem rrCountSp_eq {J : JN} {id n role commit : Int} {votes : List Bool} {next mt : List Int} {a b c : Nat} (h1 : a = votes.length) (h2 : b = next.length) (h3 : c = mt.length) (h4 : votes.length ≤ 1000000) : zg0 ([V.ptr 0 0 0]) ([rr id n role commit (.own 2 0 a) (.own 3 0 b) (.own 4 0 c),rjO J,boO votes,inO next,inO mt]) = some (⟨.int .i64 (cntT votes : Nat),[rr id n role commit (.own 2 0 a) (.own 3 0 b) (.own 4 0 c),rjO J,boO votes,inO next,inO mt]⟩) :=
 zag (by rintro ⟨a0,a1,a2,a3,a4,a5,a6,a7,a8,a9,a10⟩ ⟨b0,b1,b2,b3,b4,b5,b6,b7,b8,b9,b10⟩ h h' <;> simp at h h' <;> simp_all) (J,id,n,role,commit,votes,next,mt,a,b,c) ⟨h1,h2,h3,h4⟩
def coSt9 (J : JN) (id n role commit : Int) (votes : List Bool) (next mt : List Int) (i : Nat) : St:=mkSt [(0,.ptr 0 0 0),(3,.int .i64 (cntT (votes.take i) : Nat)),(4,.int .i64 i)] [(0,rr id n role commit (.own 2 0 votes.length) (.own 3 0 next.length) (.own 4 0 mt.length)),(1,rjO J),(2,boO votes),(3,inO next),(4,inO mt)] 5
theorem zt7 (l : List Bool) {i : Nat} {x : Bool} (h : l[i]? = some x) : cntT (l.take (i + 1)) = cntT (l.take i) + if x = true then 1 else 0:=by
 rw [List.take_add_one,h]
 cases x <;> simp [cntT]
theorem zt6 (l : List Bool) : cntT l ≤ l.length:=by unfold cntT; exact List.length_filter_le _ _
set_option maxHeartbeats 4000000 in
theorem zob : Lift.Spec Tryz.prog 121 zg0:=by
 refine zad [] (C:=C0) zac C0_ok follows Tryz.func121 (by kernel_rfl) rfl (by kernel_rfl) rfl ?_
 rintro ⟨J,id,n,role,commit,votes,next,mt,a,b,c⟩ ⟨ha,hb,hc,h1⟩
 try simp only at ha hb hc h1
 refine ⟨by simp,?_⟩
 intro r hr
 subst ha hb hc
 simp
 refine zal (coSt9 J id n role commit votes next mt) (fun i=>i ≤ votes.length) (fun i=>votes.length - i) 0 ?_ (Nat.zero_le _) ?_
 ·refine zak [.inl 0,.inl 1,.inl 2,.inl 3,.inl 4] ?_ ?_ ?_ ?_ <;> simp [cntT]
 ·intro i hi
  by_cases hik : i < votes.length
  ·obtain ⟨x,hx,hx',hxm⟩:=zav hik
   have w4 : IntKind.i64.wrap ((i : Int) + 1) = (i : Int) + 1:=w64
   have hct:=zt7 votes hx
   have hcl:=zt6 (votes.take i)
   have hcl2 : (votes.take i).length ≤ votes.length:=by rw [List.length_take]; omega
   have w5 : IntKind.i64.wrap ((cntT (votes.take i) : Int) + 1) = (cntT (votes.take i) : Int) + 1:=w64
   cases x with
   | true =>
    simp only [if_true] at hct
    simp [coSt9,hik,hx']
    refine Again.mk (i + 1) hik (by show votes.length - (i + 1) < votes.length - i; omega) ?_
    refine zak [.inl 0,.inl 1,.inl 2,.inl 3,.inl 4] ?_ ?_ ?_ ?_ <;> simp [w4,w5,hct]
   | false =>
    simp only [Bool.false_eq_true,if_false,Nat.add_zero] at hct
    simp [coSt9,hik,hx']
    refine Again.mk (i + 1) hik (by show votes.length - (i + 1) < votes.length - i; omega) ?_
    refine zak [.inl 0,.inl 1,.inl 2,.inl 3,.inl 4] ?_ ?_ ?_ ?_ <;> simp [w4,hct]
  ·have e : i = votes.length:=by omega
   subst e
   simp [coSt9]
   rw [hr]
   refine retE [] [] [] [] [.inl 0,.inl 1,.inl 2,.inl 3,.inl 4] rfl ?_
   simp
noncomputable def CQ3A:=mkC [(106,zek),(84,zdL)]
theorem zyz : zai Tryz.prog CQ3A:=zat (all_cons zkG (all_cons zgh all_nil))
@[simp] theorem CQ3A_1 : CQ3A 106 = zek:=rfl
@[simp] theorem CQ3A_2 : CQ3A 84 = zdL:=rfl
noncomputable def zdM:=fam (fun i : JN × Int × Int × Int × Int × (List Bool) × (List Int) × (List Int) × Nat × Nat × Nat × Int × Int=>[V.ptr 0 0 0,.int .i64 i.2.2.2.2.2.2.2.2.2.2.2.1,.int .i64 i.2.2.2.2.2.2.2.2.2.2.2.2]) (fun i=>[rr i.2.1 i.2.2.1 i.2.2.2.1 i.2.2.2.2.1 (.own 2 0 i.2.2.2.2.2.2.2.2.1) (.own 3 0 i.2.2.2.2.2.2.2.2.2.1) (.own 4 0 i.2.2.2.2.2.2.2.2.2.2.1),rjO i.1,boO i.2.2.2.2.2.1,inO i.2.2.2.2.2.2.1,inO i.2.2.2.2.2.2.2.1]) (fun i=>(i.2.2.2.2.2.2.2.2.1 = i.2.2.2.2.2.1.length) ∧ (i.2.2.2.2.2.2.2.2.2.1 = i.2.2.2.2.2.2.1.length) ∧ (i.2.2.2.2.2.2.2.2.2.2.1 = i.2.2.2.2.2.2.2.1.length) ∧ (i.1.b.length ≤ 1000000000) ∧ (In64 i.2.2.2.2.2.2.2.2.2.2.2.1) ∧ (In64 i.2.2.2.2.2.2.2.2.2.2.2.2)) (fun i=>⟨.tup [],[rr i.2.1 i.2.2.1 i.2.2.2.1 i.2.2.2.2.1 (.own 2 0 i.2.2.2.2.2.2.2.2.1) (.own 3 0 i.2.2.2.2.2.2.2.2.2.1) (.own 4 0 i.2.2.2.2.2.2.2.2.2.2.1),rjO (syncJ (zaq i.1 i.2.2.2.2.2.2.2.2.2.2.2.1 i.2.2.2.2.2.2.2.2.2.2.2.2)),boO i.2.2.2.2.2.1,inO i.2.2.2.2.2.2.1,inO i.2.2.2.2.2.2.2.1]⟩)
@[simp] theorem rrTermSp_eq {J : JN} {id n role commit : Int} {votes : List Bool} {next mt : List Int} {a b c : Nat} {t v : Int} (h1 : a = votes.length) (h2 : b = next.length) (h3 : c = mt.length) (h4 : J.b.length ≤ 1000000000) (h5 : In64 t) (h6 : In64 v) : zdM ([V.ptr 0 0 0,.int .i64 t,.int .i64 v]) ([rr id n role commit (.own 2 0 a) (.own 3 0 b) (.own 4 0 c),rjO J,boO votes,inO next,inO mt]) = some (⟨.tup [],[rr id n role commit (.own 2 0 a) (.own 3 0 b) (.own 4 0 c),rjO (syncJ (zaq J t v)),boO votes,inO next,inO mt]⟩) :=
 zag (by rintro ⟨a0,a1,a2,a3,a4,a5,a6,a7,a8,a9,a10,a11,a12⟩ ⟨b0,b1,b2,b3,b4,b5,b6,b7,b8,b9,b10,b11,b12⟩ h h' <;> simp at h h' <;> simp_all) (J,id,n,role,commit,votes,next,mt,a,b,c,t,v) ⟨h1,h2,h3,h4,h5,h6⟩
theorem zgi : Lift.Spec Tryz.prog 79 zdM:=by
 refine zad [] (C:=CQ3A) zac zyz follows Tryz.func79 (by kernel_rfl) rfl (by kernel_rfl) rfl ?_
 rintro ⟨J,id,n,role,commit,votes,next,mt,a,b,c,t,v⟩ ⟨ha,hb,hc,h1,h2,h3⟩
 try simp only at ha hb hc h1 h2 h3
 refine ⟨by simp,?_⟩
 intro r hr
 subst ha hb hc
 have h4 : (zaq J t v).b.length ≤ 4611686018427387904:=by have:=zcf J t v; omega
 simp [h1,h2,h3,h4]
 rw [hr]
 refine retE [] [] [] [] [.inl 0,.inl 1,.inl 2,.inl 3,.inl 4] rfl ?_
 simp
noncomputable def zfA:=fam (fun i : JN × Int × Int × Int × Int × (List Bool) × (List Int) × (List Int) × Nat × Nat × Nat × GMessage × Int × Bool=>[V.ptr 0 0 0,zam i.2.2.2.2.2.2.2.2.2.2.2.1,.int .i64 i.2.2.2.2.2.2.2.2.2.2.2.2.1,.bool i.2.2.2.2.2.2.2.2.2.2.2.2.2]) (fun i=>[rr i.2.1 i.2.2.1 i.2.2.2.1 i.2.2.2.2.1 (.own 2 0 i.2.2.2.2.2.2.2.2.1) (.own 3 0 i.2.2.2.2.2.2.2.2.2.1) (.own 4 0 i.2.2.2.2.2.2.2.2.2.2.1),rjO i.1,boO i.2.2.2.2.2.1,inO i.2.2.2.2.2.2.1,inO i.2.2.2.2.2.2.2.1]) (fun i=>(i.2.2.2.2.2.2.2.2.1 = i.2.2.2.2.2.1.length) ∧ (i.2.2.2.2.2.2.2.2.2.1 = i.2.2.2.2.2.2.1.length) ∧ (i.2.2.2.2.2.2.2.2.2.2.1 = i.2.2.2.2.2.2.2.1.length)) (fun i=>⟨.sl 2 9 (GMessage.row [ansM (⟨i.1,i.2.1,i.2.2.1,i.2.2.2.1,i.2.2.2.2.1,i.2.2.2.2.2.1,i.2.2.2.2.2.2.1,i.2.2.2.2.2.2.2.1⟩ : RN) i.2.2.2.2.2.2.2.2.2.2.2.1 i.2.2.2.2.2.2.2.2.2.2.2.2.1 i.2.2.2.2.2.2.2.2.2.2.2.2.2]),[rr i.2.1 i.2.2.1 i.2.2.2.1 i.2.2.2.2.1 (.own 2 0 i.2.2.2.2.2.2.2.2.1) (.own 3 0 i.2.2.2.2.2.2.2.2.2.1) (.own 4 0 i.2.2.2.2.2.2.2.2.2.2.1),rjO i.1,boO i.2.2.2.2.2.1,inO i.2.2.2.2.2.2.1,inO i.2.2.2.2.2.2.2.1]⟩)
@[simp] theorem rrAnswerSp_eq {J : JN} {id n role commit : Int} {votes : List Bool} {next mt : List Int} {a b c : Nat} {m : GMessage} {x : Int} {ok : Bool} (h1 : a = votes.length) (h2 : b = next.length) (h3 : c = mt.length) : zfA ([V.ptr 0 0 0,zam m,.int .i64 x,.bool ok]) ([rr id n role commit (.own 2 0 a) (.own 3 0 b) (.own 4 0 c),rjO J,boO votes,inO next,inO mt]) = some (⟨.sl 2 9 (GMessage.row [ansM (⟨J,id,n,role,commit,votes,next,mt⟩ : RN) m x ok]),[rr id n role commit (.own 2 0 a) (.own 3 0 b) (.own 4 0 c),rjO J,boO votes,inO next,inO mt]⟩) :=
 zag (by rintro ⟨a0,a1,a2,a3,a4,a5,a6,a7,a8,a9,a10,a11,a12,a13⟩ ⟨b0,b1,b2,b3,b4,b5,b6,b7,b8,b9,b10,b11,b12,b13⟩ h h' <;> simp at h h' <;> simp_all) (J,id,n,role,commit,votes,next,mt,a,b,c,m,x,ok) ⟨h1,h2,h3⟩
theorem zmB : Lift.Spec Tryz.prog 122 zfA:=by
 refine zad [] (C:=C0) zac C0_ok follows Tryz.func122 (by kernel_rfl) rfl (by kernel_rfl) rfl ?_
 rintro ⟨J,id,n,role,commit,votes,next,mt,a,b,c,m,x,ok⟩ ⟨ha,hb,hc⟩
 try simp only at ha hb hc
 refine ⟨by simp,?_⟩
 intro r hr
 subst ha hb hc
 simp [GMessage.cells,zab]
 (repeat refine dr ?_)
 rw [hr]
 refine Ret.weak (retE [.inr 8] [] [] [] [.inl 0,.inl 1,.inl 2,.inl 3,.inl 4] rfl ?_) (zbP _ (.inr 8) 10)
 simp [GMessage.cells,ansM,GMessage.row]
noncomputable def zew:=fam (fun _ : JN × Int × Int × Int × Int × (List Bool) × (List Int) × (List Int) × Nat × Nat × Nat × Bool=>[V.ptr 0 0 0]) (fun i=>[rr i.2.1 i.2.2.1 i.2.2.2.1 i.2.2.2.2.1 (.own 2 0 i.2.2.2.2.2.2.2.2.1) (.own 3 0 i.2.2.2.2.2.2.2.2.2.1) (.own 4 0 i.2.2.2.2.2.2.2.2.2.2.1),rjO i.1,boT i.2.2.2.2.2.2.2.2.2.2.2 i.2.2.2.2.2.1,inO i.2.2.2.2.2.2.1,inO i.2.2.2.2.2.2.2.1]) (fun i=>(i.2.2.2.2.2.2.2.2.1 = i.2.2.2.2.2.1.length) ∧ (i.2.2.2.2.2.2.2.2.2.1 = i.2.2.2.2.2.2.1.length) ∧ (i.2.2.2.2.2.2.2.2.2.2.1 = i.2.2.2.2.2.2.2.1.length) ∧ (0 ≤ i.2.2.1) ∧ (i.2.2.1 ≤ 5) ∧ (i.1.log.length ≤ 1000000000)) (fun i=>⟨.tup [],[rr i.2.1 i.2.2.1 3 i.2.2.2.2.1 (.own 2 0 i.2.2.2.2.2.2.2.2.1) (.own 5 0 i.2.2.1.toNat) (.own 6 0 i.2.2.1.toNat),rjO i.1,boT i.2.2.2.2.2.2.2.2.2.2.2 i.2.2.2.2.2.1,inO i.2.2.2.2.2.2.1,inO i.2.2.2.2.2.2.2.1,inO (List.replicate i.2.2.1.toNat (i.1.log.length : Int)),inO (List.replicate i.2.2.1.toNat 0)]⟩)
@[simp] theorem zpS {J : JN} {id n role commit : Int} {votes : List Bool} {next mt : List Int} {a b c : Nat} {tv : Bool} (h1 : a = votes.length) (h2 : b = next.length) (h3 : c = mt.length) (h4 : 0 ≤ n) (h5 : n ≤ 5) (h6 : J.log.length ≤ 1000000000) : zew ([V.ptr 0 0 0]) ([rr id n role commit (.own 2 0 a) (.own 3 0 b) (.own 4 0 c),rjO J,boT tv votes,inO next,inO mt]) = some (⟨.tup [],[rr id n 3 commit (.own 2 0 a) (.own 5 0 n.toNat) (.own 6 0 n.toNat),rjO J,boT tv votes,inO next,inO mt,inO (List.replicate n.toNat (J.log.length : Int)),inO (List.replicate n.toNat 0)]⟩) :=
 zag (by rintro ⟨a0,a1,a2,a3,a4,a5,a6,a7,a8,a9,a10,a11⟩ ⟨b0,b1,b2,b3,b4,b5,b6,b7,b8,b9,b10,b11⟩ h h' <;> simp at h h' <;> simp_all) (J,id,n,role,commit,votes,next,mt,a,b,c,tv) ⟨h1,h2,h3,h4,h5,h6⟩
def leSt (tv : Bool) (J : JN) (id n role commit : Int) (votes : List Bool) (next mt : List Int) (i : Nat) : St:=mkSt [(0,.ptr 0 0 0),(2,.int .i64 i)] [(0,rr id n 3 commit (.own 2 0 votes.length) (.own 5 0 n.toNat) (.own 6 0 n.toNat)),(1,rjO J),(2,boT tv votes),(3,inO next),(4,inO mt),(5,inO (List.replicate i (J.log.length : Int) ++ List.replicate (n.toNat - i) 0)),(6,inO (List.replicate n.toNat 0))] 7
set_option maxHeartbeats 4000000 in
theorem zke : Lift.Spec Tryz.prog 80 zew:=by
 refine zad [] (C:=C0) zac C0_ok follows Tryz.func80 (by kernel_rfl) rfl (by kernel_rfl) rfl ?_
 rintro ⟨J,id,n,role,commit,votes,next,mt,a,b,c,tv⟩ ⟨ha,hb,hc,h1,h2,h3⟩
 try simp only at ha hb hc h1 h2 h3
 refine ⟨by simp,?_⟩
 intro r hr
 subst ha hb hc
 have h4 : n ≤ 140737488351232:=by omega
 have h5 : n * 8 ≤ 140737488355328:=by omega
 have h6 : 8 * n ≤ 140737488355328:=by omega
 simp [h1,h4,h5,h6]
 (repeat refine dr ?_)
 have hrep : ∀ k : Nat,List.replicate k [V.int .i64 0] = zaF (List.replicate k 0):=fun k=>by simp [zaF]
 refine zal (leSt tv J id n role commit votes next mt) (fun i=>i ≤ n.toNat) (fun i=>n.toNat - i) 0 ?_ (Nat.zero_le _) ?_
 ·refine (zgl _ (.inr 12)).trans ((zgl _ (.inr 17)).trans (zak [.inl 0,.inl 1,.inl 2,.inl 3,.inl 4,.inr 12,.inr 17] ?_ ?_ ?_ ?_)) <;> simp [hrep]
 ·intro i hi
  by_cases hik : (i : Int) < n
  ·have w4 : IntKind.i64.wrap ((i : Int) + 1) = (i : Int) + 1:=w64
   have hin : i < n.toNat:=by omega
   have hset : (zaF (List.replicate i (J.log.length : Int) ++ List.replicate (n.toNat - i) 0)).set i [V.int .i64 (J.log.length : Int)] = zaF (List.replicate (i + 1) (J.log.length : Int) ++ List.replicate (n.toNat - (i + 1)) 0):=by
    have e1 : n.toNat - i = (n.toNat - (i + 1)) + 1:=by omega
    rw [e1,List.replicate_succ,List.replicate_succ',zaF,← List.map_set]
    congr 1
    rw [List.set_append_right _ _ (by simp)]
    simp
   have hmx : (i : Int) < max n 0:=by omega
   have hget : (List.replicate i (J.log.length : Int) ++ List.replicate (n.toNat - i) 0)[i]? = some 0:=by
    rw [List.getElem?_append_right (by simp)]
    simp [List.getElem?_replicate]
    omega
   simp [leSt,hik,hin,hmx,hget]
   (repeat refine dr ?_)
   refine Again.mk (i + 1) (by exact (by omega : i + 1 ≤ n.toNat)) (by show n.toNat - (i + 1) < n.toNat - i; omega) ?_
   refine zak [.inl 0,.inl 1,.inl 2,.inl 3,.inl 4,.inl 5,.inl 6] ?_ ?_ ?_ ?_ <;> simp [w4,hset]
  ·have e : i = n.toNat:=by omega
   simp [leSt,hik]
   rw [hr]
   refine retE [] [] [] [] [.inl 0,.inl 1,.inl 2,.inl 3,.inl 4,.inl 5,.inl 6] rfl ?_
   simp [e]
@[simp] theorem rrLead_o {J : JN} {id n role commit : Int} {votes : List Bool} {next mt : List Int} {a b c : Nat} (ha : a = votes.length) (hb : b = next.length) (hc : c = mt.length) (h1 : 0 ≤ n) (h2 : n ≤ 5) (h3 : J.log.length ≤ 1000000000) :
 zew [V.ptr 0 0 0] [rr id n role commit (.own 2 0 a) (.own 3 0 b) (.own 4 0 c),rjO J,boO votes,inO next,inO mt] = some ⟨.tup [],[rr id n 3 commit (.own 2 0 a) (.own 5 0 n.toNat) (.own 6 0 n.toNat),rjO J,boO votes,inO next,inO mt,inO (List.replicate n.toNat (J.log.length : Int)),inO (List.replicate n.toNat 0)]⟩:=zpS (tv:=false) ha hb hc h1 h2 h3
noncomputable def CQ3B:=mkC [(94,zbw)]
theorem zyA : zai Tryz.prog CQ3B:=zat (all_cons zcP all_nil)
@[simp] theorem CQ3B_1 : CQ3B 94 = zbw:=rfl
noncomputable def zfB:=fam (fun i : JN × Int × Int × Int × Int × (List Bool) × (List Int) × (List Int) × Nat × Nat × Nat × Nat × Nat=>[V.ptr 0 0 0,.int .i64 i.2.2.2.2.2.2.2.2.2.2.2.1]) (fun i=>[rr i.2.1 i.2.2.1 i.2.2.2.1 i.2.2.2.2.1 (.own 2 0 i.2.2.2.2.2.2.2.2.1) (.own 3 0 i.2.2.2.2.2.2.2.2.2.1) (.own 4 0 i.2.2.2.2.2.2.2.2.2.2.1),rjO i.1,boO i.2.2.2.2.2.1,inO i.2.2.2.2.2.2.1,inO i.2.2.2.2.2.2.2.1]) (fun i=>(i.2.2.2.2.2.2.2.2.1 = i.2.2.2.2.2.1.length) ∧ (i.2.2.2.2.2.2.2.2.2.1 = i.2.2.2.2.2.2.1.length) ∧ (i.2.2.2.2.2.2.2.2.2.2.1 = i.2.2.2.2.2.2.2.1.length) ∧ (i.2.2.2.2.2.2.1[i.2.2.2.2.2.2.2.2.2.2.2.1]? = some (i.2.2.2.2.2.2.2.2.2.2.2.2 : Int)) ∧ (i.2.2.2.2.2.2.2.2.2.2.2.2 ≤ i.1.log.length) ∧ (i.1.log.length ≤ 1000000000)) (fun i=>⟨zam (appM (⟨i.1,i.2.1,i.2.2.1,i.2.2.2.1,i.2.2.2.2.1,i.2.2.2.2.2.1,i.2.2.2.2.2.2.1,i.2.2.2.2.2.2.2.1⟩ : RN) i.2.2.2.2.2.2.2.2.2.2.2.1),[rr i.2.1 i.2.2.1 i.2.2.2.1 i.2.2.2.2.1 (.own 2 0 i.2.2.2.2.2.2.2.2.1) (.own 3 0 i.2.2.2.2.2.2.2.2.2.1) (.own 4 0 i.2.2.2.2.2.2.2.2.2.2.1),rjO i.1,boO i.2.2.2.2.2.1,inO i.2.2.2.2.2.2.1,inO i.2.2.2.2.2.2.2.1]⟩)
@[simp] theorem zkc {J : JN} {id n role commit : Int} {votes : List Bool} {next mt : List Int} {a b c to y : Nat} (h1 : a = votes.length) (h2 : b = next.length) (h3 : c = mt.length) (h4 : next[to]? = some (y : Int)) (h5 : y ≤ J.log.length) (h6 : J.log.length ≤ 1000000000) : zfB ([V.ptr 0 0 0,.int .i64 to]) ([rr id n role commit (.own 2 0 a) (.own 3 0 b) (.own 4 0 c),rjO J,boO votes,inO next,inO mt]) = some (⟨zam (appM (⟨J,id,n,role,commit,votes,next,mt⟩ : RN) to),[rr id n role commit (.own 2 0 a) (.own 3 0 b) (.own 4 0 c),rjO J,boO votes,inO next,inO mt]⟩) :=
 zag (by rintro ⟨a0,a1,a2,a3,a4,a5,a6,a7,a8,a9,a10,a11,a12⟩ ⟨b0,b1,b2,b3,b4,b5,b6,b7,b8,b9,b10,b11,b12⟩ h h' <;> simp at h h' <;> simp_all) (J,id,n,role,commit,votes,next,mt,a,b,c,to,y) ⟨h1,h2,h3,h4,h5,h6⟩
set_option maxHeartbeats 4000000 in
theorem zkd : Lift.Spec Tryz.prog 112 zfB:=by
 refine zad [] (C:=CQ3B) zac zyA follows Tryz.func112 (by kernel_rfl) rfl (by kernel_rfl) rfl ?_
 rintro ⟨J,id,n,role,commit,votes,next,mt,a,b,c,to,y⟩ ⟨ha,hb,hc,h1,h2,h3⟩
 try simp only at ha hb hc h1 h2 h3
 refine ⟨by simp,?_⟩
 intro r hr
 subst ha hb hc
 have hlt : to < next.length:=(List.getElem?_eq_some_iff.1 h1).1
 have hx' : next[to] = (y : Int):=(List.getElem?_eq_some_iff.1 h1).2
 have hgd : nxR (⟨J,id,n,role,commit,votes,next,mt⟩ : RN) to = y:=by simp [nxR,h1]
 have w1 : IntKind.i64.wrap ((y : Int) - 1) = y - 1:=w64
 have k1 : ((J.log.length - y : Nat) : Int) * 80 ≤ 140737488355328:=by omega
 have k2 : ((J.log.length - y : Nat) : Int) ≤ 140737488355328:=by omega
 have k3 : (y : Int) ≤ J.log.length:=by omega
 simp [hlt,hx',w1,h2,k1,k2,k3]
 (repeat refine dr ?_)
 rw [hr]
 refine retE [.inr 47] [] [] [] [.inl 0,.inl 1,.inl 2,.inl 3,.inl 4] rfl ?_
 simp [zam,appM,hgd,GMessage.cells]
def NxOk (J : JN) (next : List Int) (n : Int) : Prop:=next.length = n.toNat ∧ ∀ x ∈ next,0 ≤ x ∧ x ≤ J.log.length
theorem zep {id n x : Int} (h : x ∈ othL id n) : ∃ k : Nat,x = k ∧ (k : Int) < n ∧ x ≠ id:=by
 obtain ⟨k,h1,h2,h3⟩:=zuy h
 exact ⟨k,h1,by omega,by rw [h1]; simpa using h3⟩
theorem zfu {id n : Int} (h : n ≤ 5) : (othL id n).length ≤ 5:=by
 have:=zjO (fun i=>decide ((i : Int) ≠ id)) n.toNat
 unfold othL; omega
def msO (l : List GMessage) : AObj:=⟨41,9,GMessage.row l,false,1,.rw⟩
noncomputable def CQ3C:=mkC [(81,zcm),(112,zfB)]
theorem zyB : zai Tryz.prog CQ3C:=zat (all_cons zex (all_cons zkd all_nil))
@[simp] theorem CQ3C_1 : CQ3C 81 = zcm:=rfl
@[simp] theorem CQ3C_2 : CQ3C 112 = zfB:=rfl
noncomputable def zd9:=fam (fun _ : JN × Int × Int × Int × Int × (List Bool) × (List Int) × (List Int) × Nat × Nat × Nat=>[V.ptr 0 0 0]) (fun i=>[rr i.2.1 i.2.2.1 i.2.2.2.1 i.2.2.2.2.1 (.own 2 0 i.2.2.2.2.2.2.2.2.1) (.own 3 0 i.2.2.2.2.2.2.2.2.2.1) (.own 4 0 i.2.2.2.2.2.2.2.2.2.2),rjO i.1,boO i.2.2.2.2.2.1,inO i.2.2.2.2.2.2.1,inO i.2.2.2.2.2.2.2.1]) (fun i=>(i.2.2.2.2.2.2.2.2.1 = i.2.2.2.2.2.1.length) ∧ (i.2.2.2.2.2.2.2.2.2.1 = i.2.2.2.2.2.2.1.length) ∧ (i.2.2.2.2.2.2.2.2.2.2 = i.2.2.2.2.2.2.2.1.length) ∧ (0 ≤ i.2.2.1) ∧ (i.2.2.1 ≤ 5) ∧ (NxOk i.1 i.2.2.2.2.2.2.1 i.2.2.1) ∧ (i.1.log.length ≤ 1000000000)) (fun i=>⟨.sl 2 9 (GMessage.row (zbS (⟨i.1,i.2.1,i.2.2.1,i.2.2.2.1,i.2.2.2.2.1,i.2.2.2.2.2.1,i.2.2.2.2.2.2.1,i.2.2.2.2.2.2.2.1⟩ : RN))),[rr i.2.1 i.2.2.1 i.2.2.2.1 i.2.2.2.2.1 (.own 2 0 i.2.2.2.2.2.2.2.2.1) (.own 3 0 i.2.2.2.2.2.2.2.2.2.1) (.own 4 0 i.2.2.2.2.2.2.2.2.2.2),rjO i.1,boO i.2.2.2.2.2.1,inO i.2.2.2.2.2.2.1,inO i.2.2.2.2.2.2.2.1]⟩)
@[simp] theorem rrToAllSp_eq {J : JN} {id n role commit : Int} {votes : List Bool} {next mt : List Int} {a b c : Nat} (h1 : a = votes.length) (h2 : b = next.length) (h3 : c = mt.length) (h4 : 0 ≤ n) (h5 : n ≤ 5) (h6 : NxOk J next n) (h7 : J.log.length ≤ 1000000000) : zd9 ([V.ptr 0 0 0]) ([rr id n role commit (.own 2 0 a) (.own 3 0 b) (.own 4 0 c),rjO J,boO votes,inO next,inO mt]) = some (⟨.sl 2 9 (GMessage.row (zbS (⟨J,id,n,role,commit,votes,next,mt⟩ : RN))),[rr id n role commit (.own 2 0 a) (.own 3 0 b) (.own 4 0 c),rjO J,boO votes,inO next,inO mt]⟩) :=
 zag (by rintro ⟨a0,a1,a2,a3,a4,a5,a6,a7,a8,a9,a10⟩ ⟨b0,b1,b2,b3,b4,b5,b6,b7,b8,b9,b10⟩ h h' <;> simp at h h' <;> simp_all) (J,id,n,role,commit,votes,next,mt,a,b,c) ⟨h1,h2,h3,h4,h5,h6,h7⟩
def taSt (J : JN) (id n role commit : Int) (votes : List Bool) (next mt : List Int) (l : List Int) (i : Nat) : St:=mkSt [(0,.ptr 0 0 0),(3,.own 5 0 i),(4,.sl 2 1 (zaF l)),(5,.int .i64 i)] [(0,rr id n role commit (.own 2 0 votes.length) (.own 3 0 next.length) (.own 4 0 mt.length)),(1,rjO J),(2,boO votes),(3,inO next),(4,inO mt),(5,msO ((l.take i).map (appM (⟨J,id,n,role,commit,votes,next,mt⟩ : RN))))] 6
set_option maxHeartbeats 4000000 in
theorem zh5 : Lift.Spec Tryz.prog 86 zd9:=by
 refine zad [] (C:=CQ3C) zac zyB follows Tryz.func86 (by kernel_rfl) rfl (by kernel_rfl) rfl ?_
 rintro ⟨J,id,n,role,commit,votes,next,mt,a,b,c⟩ ⟨ha,hb,hc,h1,h2,h3,h4⟩
 try simp only at ha hb hc h1 h2 h3 h4
 refine ⟨by simp,?_⟩
 intro r hr
 subst ha hb hc
 obtain ⟨l,hl⟩ : ∃ l,l = othL id n:=⟨_,rfl⟩
 have hl5 : l.length ≤ 5:=by rw [hl]; exact zfu h2
 simp [h1,h2,← hl]
 refine zal (taSt J id n role commit votes next mt l) (fun i=>i ≤ l.length) (fun i=>l.length - i) 0 ?_ (Nat.zero_le _) ?_
 ·refine (zcw 3 500 (sz:=1) (msO []) ?_ ?_ rfl).trans (zak [.inl 0,.inl 1,.inl 2,.inl 3,.inl 4,.inl 500] ?_ ?_ ?_ ?_) <;> simp [msO]
 ·intro i hi
  by_cases hik : i < l.length
  ·obtain ⟨x,hx,hx',hxm⟩:=zav hik
   have w4 : IntKind.i64.wrap ((i : Int) + 1) = (i : Int) + 1:=w64
   rw [hl] at hxm
   obtain ⟨k,rfl,hk2,hk3⟩:=zep hxm
   have hkn : k < next.length:=by rw [h3.1]; omega
   obtain ⟨y,hy,hy',hym⟩:=zav hkn
   obtain ⟨y0,y1⟩:=h3.2 y hym
   obtain ⟨z,rfl⟩:=Int.eq_ofNat_of_zero_le y0
   have hz : z ≤ J.log.length:=by omega
   have e:=zkc (J:=J) (id:=id) (n:=n) (role:=role) (commit:=commit) (votes:=votes) (next:=next) (mt:=mt) (a:=votes.length) (b:=next.length) (c:=mt.length) (to:=k) (y:=z) rfl rfl rfl hy hz h4
   have u1 : ((i : Int) + 1) * 88 ≤ 140737488355328:=by omega
   have u2 : (i : Int) + 1 ≤ 140737488355328:=by omega
   obtain ⟨x,hxe⟩ : ∃ x,x = appM (⟨J,id,n,role,commit,votes,next,mt⟩ : RN) (k : Int):=⟨_,rfl⟩
   rw [← hxe] at e
   have hrow : [[V.int .i64 x.Kind,.int .i64 x.From,.int .i64 x.To,.int .i64 x.Term,.int .i64 x.Index,.int .i64 x.PrevTerm,.int .i64 x.Commit,.bool x.OK,.sl 2 10 (GLogged.row x.Entries)]] = GMessage.row [x]:=rfl
   have htk : (l.take (i + 1)).map (appM (⟨J,id,n,role,commit,votes,next,mt⟩ : RN)) = (l.take i).map (appM (⟨J,id,n,role,commit,votes,next,mt⟩ : RN)) ++ [x]:=by rw [List.take_add_one,hx,hxe]; simp
   have hmn : min i l.length = i:=by omega
   simp [taSt,msO,hik,hx',e,u1,u2,GMessage.cells,hmn]
   refine Again.mk (i + 1) hik (by show l.length - (i + 1) < l.length - i; omega) ?_
   refine zak [.inl 0,.inl 1,.inl 2,.inl 3,.inl 4,.inr 3] ?_ ?_ ?_ ?_ <;> simp [w4,hrow,htk,msO]
  ·have e : i = l.length:=by omega
   subst e
   simp [taSt,msO]
   rw [hr]
   refine retE [.inr 2] [] [] [] [.inl 0,.inl 1,.inl 2,.inl 3,.inl 4] rfl ?_
   simp [zbS,← hl]
   exact List.take_of_length_le (by simp)
end Go.Proofs.YtcpdgbncekdicaaGreat

namespace Go.Proofs.YtcpdgbncekdicaaGreat
open Go.Lift
set_option maxRecDepth 100000
noncomputable def CQ4A:=mkC [(94,zbw),(81,zcm)]
theorem zyC : zai Tryz.prog CQ4A:=zat (all_cons zcP (all_cons zex all_nil))
@[simp] theorem CQ4A_1 : CQ4A 94 = zbw:=rfl
@[simp] theorem CQ4A_2 : CQ4A 81 = zcm:=rfl
def stoB (mt : List Int) (m : Int) (i : Int) : Bool:=decide (m ≤ mt.getD i.toNat 0)
theorem zAF (R : RN) (m : Int) : stN R m = ((othL R.id R.n).filter (stoB R.mt m)).length:=rfl
theorem zum {l : List Int} {p : Int → Bool} {i : Nat} {x : Int} (h : l[i]? = some x) : ((l.take (i + 1)).filter p).length = ((l.take i).filter p).length + if p x = true then 1 else 0:=by
 rw [List.take_add_one,h]
 cases hp : p x <;> simp [List.filter_append,hp]
noncomputable def zhx:=fam (fun _ : JN × Int × Int × Int × Int × (List Bool) × (List Int) × (List Int) × Nat × Nat × Nat=>[V.ptr 0 0 0]) (fun i=>[rr i.2.1 i.2.2.1 i.2.2.2.1 i.2.2.2.2.1 (.own 2 0 i.2.2.2.2.2.2.2.2.1) (.own 3 0 i.2.2.2.2.2.2.2.2.2.1) (.own 4 0 i.2.2.2.2.2.2.2.2.2.2),rjO i.1,boO i.2.2.2.2.2.1,inO i.2.2.2.2.2.2.1,inO i.2.2.2.2.2.2.2.1]) (fun i=>(i.2.2.2.2.2.2.2.2.1 = i.2.2.2.2.2.1.length) ∧ (i.2.2.2.2.2.2.2.2.2.1 = i.2.2.2.2.2.2.1.length) ∧ (i.2.2.2.2.2.2.2.2.2.2 = i.2.2.2.2.2.2.2.1.length) ∧ (0 ≤ i.2.2.1) ∧ (i.2.2.1 ≤ 5) ∧ (i.2.2.2.2.2.2.2.1.length = i.2.2.1.toNat) ∧ (i.1.log.length ≤ 1000000000) ∧ (0 ≤ i.2.2.2.2.1)) (fun i=>⟨.tup [],[rr i.2.1 i.2.2.1 i.2.2.2.1 (advGo (⟨i.1,i.2.1,i.2.2.1,i.2.2.2.1,i.2.2.2.2.1,i.2.2.2.2.2.1,i.2.2.2.2.2.2.1,i.2.2.2.2.2.2.2.1⟩ : RN) i.1.log.length) (.own 2 0 i.2.2.2.2.2.2.2.2.1) (.own 3 0 i.2.2.2.2.2.2.2.2.2.1) (.own 4 0 i.2.2.2.2.2.2.2.2.2.2),rjO i.1,boO i.2.2.2.2.2.1,inO i.2.2.2.2.2.2.1,inO i.2.2.2.2.2.2.2.1]⟩)
@[simp] theorem rrAdvSp_eq {J : JN} {id n role commit : Int} {votes : List Bool} {next mt : List Int} {a b c : Nat} (h1 : a = votes.length) (h2 : b = next.length) (h3 : c = mt.length) (h4 : 0 ≤ n) (h5 : n ≤ 5) (h6 : mt.length = n.toNat) (h7 : J.log.length ≤ 1000000000) (h8 : 0 ≤ commit) : zhx ([V.ptr 0 0 0]) ([rr id n role commit (.own 2 0 a) (.own 3 0 b) (.own 4 0 c),rjO J,boO votes,inO next,inO mt]) = some (⟨.tup [],[rr id n role (advGo (⟨J,id,n,role,commit,votes,next,mt⟩ : RN) J.log.length) (.own 2 0 a) (.own 3 0 b) (.own 4 0 c),rjO J,boO votes,inO next,inO mt]⟩) :=
 zag (by rintro ⟨a0,a1,a2,a3,a4,a5,a6,a7,a8,a9,a10⟩ ⟨b0,b1,b2,b3,b4,b5,b6,b7,b8,b9,b10⟩ h h' <;> simp at h h' <;> simp_all) (J,id,n,role,commit,votes,next,mt,a,b,c) ⟨h1,h2,h3,h4,h5,h6,h7,h8⟩
def avSt (J : JN) (id n role commit : Int) (votes : List Bool) (next mt : List Int) (m : Nat) : St:=mkSt [(0,.ptr 0 0 0),(2,.int .i64 m)] [(0,rr id n role commit (.own 2 0 votes.length) (.own 3 0 next.length) (.own 4 0 mt.length)),(1,rjO J),(2,boO votes),(3,inO next),(4,inO mt)] 5
def avSt2 (J : JN) (id n role commit : Int) (votes : List Bool) (next mt : List Int) (m : Nat) (l : List Int) (i : Nat) : St:=mkSt [(0,.ptr 0 0 0),(2,.int .i64 ((m : Int) + 1)),(3,.int .i64 (1 + (((l.take i).filter (stoB mt ((m : Int) + 1))).length : Int))),(4,.sl 2 1 (zaF l)),(5,.int .i64 i)] [(0,rr id n role commit (.own 2 0 votes.length) (.own 3 0 next.length) (.own 4 0 mt.length)),(1,rjO J),(2,boO votes),(3,inO next),(4,inO mt)] 5
set_option maxHeartbeats 8000000 in
theorem zlq : Lift.Spec Tryz.prog 85 zhx:=by
 refine zad [] (C:=CQ4A) zac zyC follows Tryz.func85 (by kernel_rfl) rfl (by kernel_rfl) rfl ?_
 rintro ⟨J,id,n,role,commit,votes,next,mt,a,b,c⟩ ⟨ha,hb,hc,h1,h2,h3,h4,h5⟩
 try simp only at ha hb hc h1 h2 h3 h4 h5
 refine ⟨by simp,?_⟩
 intro r hr
 subst ha hb hc
 obtain ⟨Q,hQ⟩ : ∃ Q : RN,Q = ⟨J,id,n,role,commit,votes,next,mt⟩:=⟨_,rfl⟩
 simp only [← hQ] at hr
 have q1 : Q.J = J:=by rw [hQ]
 have q2 : Q.commit = commit:=by rw [hQ]
 have q3 : Q.n = n:=by rw [hQ]
 have q4 : Q.id = id:=by rw [hQ]
 have q5 : Q.mt = mt:=by rw [hQ]
 simp
 refine zal (avSt J id n role commit votes next mt) (fun m=>m ≤ J.log.length ∧ advGo Q m = advGo Q J.log.length) (fun m=>m) J.log.length ?_ ⟨Nat.le_refl _,rfl⟩ ?_
 ·refine zak [.inl 0,.inl 1,.inl 2,.inl 3,.inl 4] ?_ ?_ ?_ ?_ <;> simp
 ·rintro m ⟨hm,g⟩
  by_cases hc1 : commit < (m : Int)
  rotate_left
  ·have hg : advGo Q J.log.length = commit:=by
    rw [← g]
    cases m with
    | zero=>rw [advGo,q2]
    | succ k=>rw [advGo,if_pos (by rw [q2]; push_cast at hc1; omega),q2]
   rw [hg] at hr
   simp [avSt,hc1]
   rw [hr]
   refine retE [] [] [] [] [.inl 0,.inl 1,.inl 2,.inl 3,.inl 4] rfl ?_
   simp
  obtain ⟨k,rfl⟩ : ∃ k,m = k + 1:=⟨m - 1,by omega⟩
  have hk : k < J.log.length:=by omega
  have w1 : IntKind.i64.wrap (((k + 1 : Nat) : Int) - 1) = (k : Int):=by rw [w64]; omega
  have w2 : IntKind.i64.wrap (k : Int) = (k : Int):=w64
  have hc2 : commit < (k : Int) + 1:=by omega
  rw [advGo,if_neg (by rw [q2]; omega),q1] at g
  by_cases ht : (logAt J.log k).Term = J.term
  rotate_left
  ·rw [if_pos ht,q2] at g
   rw [← g] at hr
   simp [avSt,hc2,w1,w2,ht]
   (repeat refine dr ?_)
   rw [hr]
   refine retE [] [] [] [] [.inl 0,.inl 1,.inl 2,.inl 3,.inl 4] rfl ?_
   simp
  rw [if_neg (by simpa using ht)] at g
  obtain ⟨l,hl⟩ : ∃ l,l = othL id n:=⟨_,rfl⟩
  have hl5 : l.length ≤ 5:=by rw [hl]; exact zfu h2
  simp [avSt,hc2,w1,w2,ht,h1,h2,← hl]
  (repeat refine dr ?_)
  refine zal (avSt2 J id n role commit votes next mt k l) (fun i=>i ≤ l.length) (fun i=>l.length - i) 0 ?_ (Nat.zero_le _) ?_
  ·refine zak [.inl 0,.inl 1,.inl 2,.inl 3,.inl 4] ?_ ?_ ?_ ?_ <;> simp
  ·intro i hi
   have hfl : ((l.take i).filter (stoB mt ((k : Int) + 1))).length ≤ 5:=by
    have:=List.length_filter_le (stoB mt ((k : Int) + 1)) (l.take i)
    have : (l.take i).length ≤ l.length:=by rw [List.length_take]; omega
    omega
   by_cases hik : i < l.length
   ·obtain ⟨x,hx,hx',hxm⟩:=zav hik
    have w4 : IntKind.i64.wrap ((i : Int) + 1) = (i : Int) + 1:=w64
    have hft:=zum (p:=stoB mt ((k : Int) + 1)) hx
    rw [hl] at hxm
    obtain ⟨o,rfl,ho2,ho3⟩:=zep hxm
    have hon : o < mt.length:=by rw [h3]; omega
    obtain ⟨y,hy,hy',hym⟩:=zav hon
    have hgd : stoB mt ((k : Int) + 1) (o : Int) = decide ((k : Int) + 1 ≤ y):=by simp [stoB,hy]
    have w5 : IntKind.i64.wrap (1 + ((((l.take i).filter (stoB mt ((k : Int) + 1))).length : Int) + 1)) = 1 + ((((l.take i).filter (stoB mt ((k : Int) + 1))).length : Int) + 1):=w64
    by_cases hle : (k : Int) + 1 ≤ y
    ·rw [hgd,decide_eq_true hle,if_pos rfl] at hft
     simp [avSt2,hik,hx',hon,hy',hle]
     (repeat refine dr ?_)
     refine Again.mk (i + 1) hik (by show l.length - (i + 1) < l.length - i; omega) ?_
     refine zak [.inl 0,.inl 1,.inl 2,.inl 3,.inl 4] ?_ ?_ ?_ ?_ <;> simp [w4,w5,hft,Int.add_assoc]
    ·rw [hgd,decide_eq_false hle,if_neg (by decide)] at hft
     simp [avSt2,hik,hx',hon,hy',hle]
     (repeat refine dr ?_)
     refine Again.mk (i + 1) hik (by show l.length - (i + 1) < l.length - i; omega) ?_
     refine zak [.inl 0,.inl 1,.inl 2,.inl 3,.inl 4] ?_ ?_ ?_ ?_ <;> simp [w4,hft]
   ·have e : i = l.length:=by omega
    subst e
    rw [List.take_length] at hfl
    have hsn : stN Q ((k : Int) + 1) = (l.filter (stoB mt ((k : Int) + 1))).length:=by rw [zAF,q3,q4,q5,← hl]
    have w3 : IntKind.i64.wrap (2 * (1 + ((l.filter (stoB mt ((k : Int) + 1))).length : Int))) = 2 * (1 + ((l.filter (stoB mt ((k : Int) + 1))).length : Int)):=w64
    rw [hsn,q3] at g
    by_cases hq : n < 2 * (1 + ((l.filter (stoB mt ((k : Int) + 1))).length : Int))
    ·rw [if_pos hq] at g
     rw [← g] at hr
     simp [avSt2,w3,hq]
     rw [hr]
     refine retE [] [] [] [] [.inl 0,.inl 1,.inl 2,.inl 3,.inl 4] rfl ?_
     simp
    ·rw [if_neg hq] at g
     simp [avSt2,w3,hq]
     refine Again.mk k ⟨by omega,g⟩ (by show k < k + 1; omega) ?_
     refine zak [.inl 0,.inl 1,.inl 2,.inl 3,.inl 4] ?_ ?_ ?_ ?_ <;> simp [w1,w2]
end Go.Proofs.YtcpdgbncekdicaaGreat

namespace Go.Proofs.YtcpdgbncekdicaaGreat
open Go.Lift
set_option maxRecDepth 100000
noncomputable def CQ6A:=mkC [(82,zdI),(79,zdM)]
theorem zyD : zai Tryz.prog CQ6A:=zat (all_cons zgb (all_cons zgi all_nil))
@[simp] theorem CQ6A_1 : CQ6A 82 = zdI:=rfl
@[simp] theorem CQ6A_2 : CQ6A 79 = zdM:=rfl
noncomputable def ziM:=fam (fun i : JN × Int × Int × Int × Int × (List Bool) × (List Int) × (List Int) × Nat × Nat × Nat × GMessage=>[V.ptr 0 0 0,zam i.2.2.2.2.2.2.2.2.2.2.2]) (fun i=>[rr i.2.1 i.2.2.1 i.2.2.2.1 i.2.2.2.2.1 (.own 2 0 i.2.2.2.2.2.2.2.2.1) (.own 3 0 i.2.2.2.2.2.2.2.2.2.1) (.own 4 0 i.2.2.2.2.2.2.2.2.2.2.1),rjO i.1,boO i.2.2.2.2.2.1,inO i.2.2.2.2.2.2.1,inO i.2.2.2.2.2.2.2.1]) (fun i=>(i.2.2.2.2.2.2.2.2.1 = i.2.2.2.2.2.1.length) ∧ (i.2.2.2.2.2.2.2.2.2.1 = i.2.2.2.2.2.2.1.length) ∧ (i.2.2.2.2.2.2.2.2.2.2.1 = i.2.2.2.2.2.2.2.1.length) ∧ (i.1.b.length ≤ 1000000000) ∧ (i.1.log.length ≤ 1000000000) ∧ (In64 i.1.term) ∧ (In64 i.2.2.2.2.2.2.2.2.2.2.2.From)) (fun i=>⟨.sl 2 9 (GMessage.row (voteM (⟨i.1,i.2.1,i.2.2.1,i.2.2.2.1,i.2.2.2.2.1,i.2.2.2.2.2.1,i.2.2.2.2.2.2.1,i.2.2.2.2.2.2.2.1⟩ : RN) i.2.2.2.2.2.2.2.2.2.2.2)),[rr i.2.1 i.2.2.1 i.2.2.2.1 i.2.2.2.2.1 (.own 2 0 i.2.2.2.2.2.2.2.2.1) (.own 3 0 i.2.2.2.2.2.2.2.2.2.1) (.own 4 0 i.2.2.2.2.2.2.2.2.2.2.1),rjO (voteR (⟨i.1,i.2.1,i.2.2.1,i.2.2.2.1,i.2.2.2.2.1,i.2.2.2.2.2.1,i.2.2.2.2.2.2.1,i.2.2.2.2.2.2.2.1⟩ : RN) i.2.2.2.2.2.2.2.2.2.2.2).J,boO i.2.2.2.2.2.1,inO i.2.2.2.2.2.2.1,inO i.2.2.2.2.2.2.2.1]⟩)
@[simp] theorem rrVoteSp_eq {J : JN} {id n role commit : Int} {votes : List Bool} {next mt : List Int} {a b c : Nat} {m : GMessage} (h1 : a = votes.length) (h2 : b = next.length) (h3 : c = mt.length) (h4 : J.b.length ≤ 1000000000) (h5 : J.log.length ≤ 1000000000) (h6 : In64 J.term) (h7 : In64 m.From) : ziM ([V.ptr 0 0 0,zam m]) ([rr id n role commit (.own 2 0 a) (.own 3 0 b) (.own 4 0 c),rjO J,boO votes,inO next,inO mt]) = some (⟨.sl 2 9 (GMessage.row (voteM (⟨J,id,n,role,commit,votes,next,mt⟩ : RN) m)),[rr id n role commit (.own 2 0 a) (.own 3 0 b) (.own 4 0 c),rjO (voteR (⟨J,id,n,role,commit,votes,next,mt⟩ : RN) m).J,boO votes,inO next,inO mt]⟩) :=
 zag (by rintro ⟨a0,a1,a2,a3,a4,a5,a6,a7,a8,a9,a10,a11⟩ ⟨b0,b1,b2,b3,b4,b5,b6,b7,b8,b9,b10,b11⟩ h h' <;> simp at h h' <;> simp_all) (J,id,n,role,commit,votes,next,mt,a,b,c,m) ⟨h1,h2,h3,h4,h5,h6,h7⟩
set_option maxHeartbeats 40000000 in
theorem zpU : Lift.Spec Tryz.prog 90 ziM:=by
 refine zad [] (C:=CQ6A) zac zyD follows Tryz.func90 (by kernel_rfl) rfl (by kernel_rfl) rfl ?_
 rintro ⟨J,id,n,role,commit,votes,next,mt,a,b,c,m⟩ ⟨ha,hb,hc,h1,h2,h3,h4⟩
 try simp only at ha hb hc h1 h2 h3 h4
 refine ⟨by simp,?_⟩
 intro r hr
 subst ha hb hc
 have h5 : J.log.length ≤ 4611686018427387904:=by omega
 obtain ⟨Q,hQ⟩ : ∃ Q : RN,Q = ⟨J,id,n,role,commit,votes,next,mt⟩:=⟨_,rfl⟩
 simp only [← hQ] at hr
 have q1 : Q.J = J:=by rw [hQ]
 have q2 : Q.id = id:=by rw [hQ]
 by_cases g1 : m.Term = J.term
 rotate_left
 ·have hg : zbh Q m = false:=by simp [zbh,q1,g1]
  simp [GMessage.cells,zab,h1,h2,h3,h4,h5,g1]
  (repeat refine dr ?_)
  rw [hr]
  refine Ret.weak (retE [.inr 96] [] [] [] [.inl 0,.inl 1,.inl 2,.inl 3,.inl 4] rfl ?_) (zbP _ (.inr 96) 10)
  simp [GMessage.cells,voteM,voteR,hg,q1,q2,termR,GMessage.row]
 by_cases g2 : J.vote = -1
 ·by_cases g4 : lastT J.log < m.PrevTerm
  ·have hg : zbh Q m = true:=by simp [zbh,q1,eq_true g1,eq_true g2,g4]
   simp [GMessage.cells,zab,h1,h2,h3,h4,h5,eq_true g1,eq_true g2,g4]
   (repeat refine dr ?_)
   rw [hr]
   refine Ret.weak (retE [.inr 96] [] [] [] [.inl 0,.inl 1,.inl 2,.inl 3,.inl 4] rfl ?_) (zbP _ (.inr 96) 10)
   simp [GMessage.cells,voteM,voteR,hg,q1,q2,termR,GMessage.row]
  by_cases g5 : m.PrevTerm = lastT J.log
  rotate_left
  ·have hg : zbh Q m = false:=by simp [zbh,q1,eq_true g1,eq_true g2,g4,g5]
   simp [GMessage.cells,zab,h1,h2,h3,h4,h5,eq_true g1,eq_true g2,g4,g5]
   (repeat refine dr ?_)
   rw [hr]
   refine Ret.weak (retE [.inr 96] [] [] [] [.inl 0,.inl 1,.inl 2,.inl 3,.inl 4] rfl ?_) (zbP _ (.inr 96) 10)
   simp [GMessage.cells,voteM,voteR,hg,q1,q2,termR,GMessage.row]
  by_cases g6 : (J.log.length : Int) ≤ m.Index
  ·have hg : zbh Q m = true:=by simp [zbh,q1,eq_true g1,eq_true g2,g4,eq_true g5,g6]
   simp [GMessage.cells,zab,h1,h2,h3,h4,h5,eq_true g1,eq_true g2,g4,eq_true g5,g6]
   (repeat refine dr ?_)
   rw [hr]
   refine Ret.weak (retE [.inr 96] [] [] [] [.inl 0,.inl 1,.inl 2,.inl 3,.inl 4] rfl ?_) (zbP _ (.inr 96) 10)
   simp [GMessage.cells,voteM,voteR,hg,q1,q2,termR,GMessage.row]
  ·have hg : zbh Q m = false:=by simp [zbh,q1,eq_true g1,eq_true g2,g4,eq_true g5,g6]
   simp [GMessage.cells,zab,h1,h2,h3,h4,h5,eq_true g1,eq_true g2,g4,eq_true g5,g6]
   (repeat refine dr ?_)
   rw [hr]
   refine Ret.weak (retE [.inr 96] [] [] [] [.inl 0,.inl 1,.inl 2,.inl 3,.inl 4] rfl ?_) (zbP _ (.inr 96) 10)
   simp [GMessage.cells,voteM,voteR,hg,q1,q2,termR,GMessage.row]
 by_cases g3 : J.vote = m.From
 ·by_cases g4 : lastT J.log < m.PrevTerm
  ·have hg : zbh Q m = true:=by simp [zbh,q1,eq_true g1,g2,eq_true g3,g4]
   simp [GMessage.cells,zab,h1,h2,h3,h4,h5,eq_true g1,g2,eq_true g3,g4]
   (repeat refine dr ?_)
   rw [hr]
   refine Ret.weak (retE [.inr 96] [] [] [] [.inl 0,.inl 1,.inl 2,.inl 3,.inl 4] rfl ?_) (zbP _ (.inr 96) 10)
   simp [GMessage.cells,voteM,voteR,hg,q1,q2,termR,GMessage.row]
  by_cases g5 : m.PrevTerm = lastT J.log
  rotate_left
  ·have hg : zbh Q m = false:=by simp [zbh,q1,eq_true g1,g2,eq_true g3,g4,g5]
   simp [GMessage.cells,zab,h1,h2,h3,h4,h5,eq_true g1,g2,eq_true g3,g4,g5]
   (repeat refine dr ?_)
   rw [hr]
   refine Ret.weak (retE [.inr 96] [] [] [] [.inl 0,.inl 1,.inl 2,.inl 3,.inl 4] rfl ?_) (zbP _ (.inr 96) 10)
   simp [GMessage.cells,voteM,voteR,hg,q1,q2,termR,GMessage.row]
  by_cases g6 : (J.log.length : Int) ≤ m.Index
  ·have hg : zbh Q m = true:=by simp [zbh,q1,eq_true g1,g2,eq_true g3,g4,eq_true g5,g6]
   simp [GMessage.cells,zab,h1,h2,h3,h4,h5,eq_true g1,g2,eq_true g3,g4,eq_true g5,g6]
   (repeat refine dr ?_)
   rw [hr]
   refine Ret.weak (retE [.inr 96] [] [] [] [.inl 0,.inl 1,.inl 2,.inl 3,.inl 4] rfl ?_) (zbP _ (.inr 96) 10)
   simp [GMessage.cells,voteM,voteR,hg,q1,q2,termR,GMessage.row]
  ·have hg : zbh Q m = false:=by simp [zbh,q1,eq_true g1,g2,eq_true g3,g4,eq_true g5,g6]
   simp [GMessage.cells,zab,h1,h2,h3,h4,h5,eq_true g1,g2,eq_true g3,g4,eq_true g5,g6]
   (repeat refine dr ?_)
   rw [hr]
   refine Ret.weak (retE [.inr 96] [] [] [] [.inl 0,.inl 1,.inl 2,.inl 3,.inl 4] rfl ?_) (zbP _ (.inr 96) 10)
   simp [GMessage.cells,voteM,voteR,hg,q1,q2,termR,GMessage.row]
 ·have hg : zbh Q m = false:=by simp [zbh,q1,eq_true g1,g2,g3]
  simp [GMessage.cells,zab,h1,h2,h3,h4,h5,eq_true g1,g2,g3]
  (repeat refine dr ?_)
  rw [hr]
  refine Ret.weak (retE [.inr 96] [] [] [] [.inl 0,.inl 1,.inl 2,.inl 3,.inl 4] rfl ?_) (zbP _ (.inr 96) 10)
  simp [GMessage.cells,voteM,voteR,hg,q1,q2,termR,GMessage.row]
end Go.Proofs.YtcpdgbncekdicaaGreat

namespace Go.Proofs.YtcpdgbncekdicaaGreat
open Go.Lift
set_option maxRecDepth 100000
theorem NxOk.lead (J : JN) (n : Int) : NxOk J (List.replicate n.toNat (J.log.length : Int)) n:=by
 refine ⟨by simp,fun x hx=>?_⟩
 have:=(List.mem_replicate.1 hx).2
 omega
noncomputable def CQ7A:=mkC [(121,zg0),(80,zew),(86,zd9),(112,zfB),(85,zhx)]
theorem zot : zai Tryz.prog CQ7A:=zat (all_cons zob (all_cons zke (all_cons zh5 (all_cons zkd (all_cons zlq all_nil)))))
@[simp] theorem CQ7A_1 : CQ7A 121 = zg0:=rfl
@[simp] theorem CQ7A_2 : CQ7A 80 = zew:=rfl
@[simp] theorem CQ7A_3 : CQ7A 86 = zd9:=rfl
@[simp] theorem CQ7A_4 : CQ7A 112 = zfB:=rfl
@[simp] theorem CQ7A_5 : CQ7A 85 = zhx:=rfl
def zch (J : JN) (id n role commit : Int) (votes : List Bool) (next mt : List Int) (a b c : Nat) (m : GMessage) : List AObj :=
 if zb7 (⟨J,id,n,role,commit,votes,next,mt⟩ : RN) m = true then (if 2 * (cntT (votes.set m.From.toNat true) : Int) ≤ n then [rr id n role commit (.own 2 0 a) (.own 3 0 b) (.own 4 0 c),rjO J,boO (votes.set m.From.toNat true),inO next,inO mt]
  else [rr id n 3 commit (.own 2 0 a) (.own 5 0 n.toNat) (.own 6 0 n.toNat),rjO J,boO (votes.set m.From.toNat true),inO next,inO mt,inO (List.replicate n.toNat (J.log.length : Int)),inO (List.replicate n.toNat 0)])
 else [rr id n role commit (.own 2 0 a) (.own 3 0 b) (.own 4 0 c),rjO J,boO votes,inO next,inO mt]
noncomputable def zg4:=fam (fun i : JN × Int × Int × Int × Int × (List Bool) × (List Int) × (List Int) × Nat × Nat × Nat × GMessage=>[V.ptr 0 0 0,zam i.2.2.2.2.2.2.2.2.2.2.2]) (fun i=>[rr i.2.1 i.2.2.1 i.2.2.2.1 i.2.2.2.2.1 (.own 2 0 i.2.2.2.2.2.2.2.2.1) (.own 3 0 i.2.2.2.2.2.2.2.2.2.1) (.own 4 0 i.2.2.2.2.2.2.2.2.2.2.1),rjO i.1,boO i.2.2.2.2.2.1,inO i.2.2.2.2.2.2.1,inO i.2.2.2.2.2.2.2.1]) (fun i=>(i.2.2.2.2.2.2.2.2.1 = i.2.2.2.2.2.1.length) ∧ (i.2.2.2.2.2.2.2.2.2.1 = i.2.2.2.2.2.2.1.length) ∧ (i.2.2.2.2.2.2.2.2.2.2.1 = i.2.2.2.2.2.2.2.1.length) ∧ (0 ≤ i.2.2.1) ∧ (i.2.2.1 ≤ 5) ∧ (0 ≤ i.2.2.2.2.2.2.2.2.2.2.2.From) ∧ (i.2.2.2.2.2.2.2.2.2.2.2.From < i.2.2.1) ∧ (i.2.2.2.1 = 2 → i.2.2.2.2.2.1.length = i.2.2.1.toNat) ∧ (i.1.log.length ≤ 1000000000)) (fun i=>⟨.sl 2 9 (GMessage.row (zcV (⟨i.1,i.2.1,i.2.2.1,i.2.2.2.1,i.2.2.2.2.1,i.2.2.2.2.2.1,i.2.2.2.2.2.2.1,i.2.2.2.2.2.2.2.1⟩ : RN) i.2.2.2.2.2.2.2.2.2.2.2)),zch i.1 i.2.1 i.2.2.1 i.2.2.2.1 i.2.2.2.2.1 i.2.2.2.2.2.1 i.2.2.2.2.2.2.1 i.2.2.2.2.2.2.2.1 i.2.2.2.2.2.2.2.2.1 i.2.2.2.2.2.2.2.2.2.1 i.2.2.2.2.2.2.2.2.2.2.1 i.2.2.2.2.2.2.2.2.2.2.2⟩)
@[simp] theorem zcF {J : JN} {id n role commit : Int} {votes : List Bool} {next mt : List Int} {a b c : Nat} {m : GMessage} (h1 : a = votes.length) (h2 : b = next.length) (h3 : c = mt.length) (h4 : 0 ≤ n) (h5 : n ≤ 5) (h6 : 0 ≤ m.From) (h7 : m.From < n) (h8 : role = 2 → votes.length = n.toNat) (h9 : J.log.length ≤ 1000000000) : zg4 ([V.ptr 0 0 0,zam m]) ([rr id n role commit (.own 2 0 a) (.own 3 0 b) (.own 4 0 c),rjO J,boO votes,inO next,inO mt]) = some (⟨.sl 2 9 (GMessage.row (zcV (⟨J,id,n,role,commit,votes,next,mt⟩ : RN) m)),zch J id n role commit votes next mt a b c m⟩) :=
 zag (by rintro ⟨a0,a1,a2,a3,a4,a5,a6,a7,a8,a9,a10,a11⟩ ⟨b0,b1,b2,b3,b4,b5,b6,b7,b8,b9,b10,b11⟩ h h' <;> simp at h h' <;> simp_all) (J,id,n,role,commit,votes,next,mt,a,b,c,m) ⟨h1,h2,h3,h4,h5,h6,h7,h8,h9⟩
set_option maxHeartbeats 40000000 in
theorem zoe : Lift.Spec Tryz.prog 91 zg4:=by
 refine zad [] (C:=CQ7A) zac zot follows Tryz.func91 (by kernel_rfl) rfl (by kernel_rfl) rfl ?_
 rintro ⟨J,id,n,role,commit,votes,next,mt,a,b,c,m⟩ ⟨ha,hb,hc,h1,h2,h3,h4,h5,h6⟩
 try simp only at ha hb hc h1 h2 h3 h4 h5 h6
 refine ⟨by simp,?_⟩
 intro r hr
 subst ha hb hc
 obtain ⟨Q,hQ⟩ : ∃ Q : RN,Q = ⟨J,id,n,role,commit,votes,next,mt⟩:=⟨_,rfl⟩
 simp only [zch,← hQ] at hr
 have q1 : Q.J = J:=by rw [hQ]
 have q2 : Q.role = role:=by rw [hQ]
 have q3 : Q.n = n:=by rw [hQ]
 by_cases g1 : role = 2
 rotate_left
 ·skip
  have hcb : zb7 Q m = false:=by simp [zb7,q1,q2,g1]
  simp only [zcV,zch,← hQ,hcb] at hr
  simp [GMessage.cells,zab,g1]
  (repeat refine dr ?_)
  rw [hr]
  refine Ret.weak (retE [] [] [] [] [.inl 0,.inl 1,.inl 2,.inl 3,.inl 4] rfl ?_) (zax _ 4 9)
  simp
 by_cases g2 : m.Term = J.term
 rotate_left
 ·skip
  have hcb : zb7 Q m = false:=by simp [zb7,q1,q2,eq_true g1,g2]
  simp only [zcV,zch,← hQ,hcb] at hr
  simp [GMessage.cells,zab,eq_true g1,g2]
  (repeat refine dr ?_)
  rw [hr]
  refine Ret.weak (retE [] [] [] [] [.inl 0,.inl 1,.inl 2,.inl 3,.inl 4] rfl ?_) (zax _ 4 9)
  simp
 by_cases g3 : m.OK = true
 rotate_left
 ·skip
  have hcb : zb7 Q m = false:=by simp [zb7,q1,q2,eq_true g1,eq_true g2,g3]
  simp only [zcV,zch,← hQ,hcb] at hr
  simp [GMessage.cells,zab,eq_true g1,eq_true g2,g3]
  (repeat refine dr ?_)
  rw [hr]
  refine Ret.weak (retE [] [] [] [] [.inl 0,.inl 1,.inl 2,.inl 3,.inl 4] rfl ?_) (zax _ 4 9)
  simp
 have hcb : zb7 Q m = true:=by simp [zb7,q1,q2,eq_true g1,eq_true g2,g3]
 have hvl:=h5 g1
 obtain ⟨f,hf⟩:=Int.eq_ofNat_of_zero_le h3
 have hfl : f < votes.length:=by omega
 have hset : (zaC votes).set f [V.bool true] = zaC (votes.set f true):=by simp [zaC,List.map_set]
 have hct:=zt6 (votes.set f true)
 rw [List.length_set] at hct
 have w1 : IntKind.i64.wrap (2 * (cntT (votes.set f true) : Int)) = 2 * (cntT (votes.set f true) : Int):=w64
 have hvs : (votes.set f true).length ≤ 1000000:=by rw [List.length_set]; omega
 have hvs2 : votes.length ≤ 1000000:=by omega
 have hH : zcD Q m = ⟨J,id,n,role,commit,votes.set f true,next,mt⟩:=by rw [hQ]; simp [zcD,hf]
 by_cases hq : 2 * (cntT (votes.set f true) : Int) ≤ n
 ·have hM : zcV Q m = []:=by simp only [zcV,hcb,hH,q3,if_true,if_pos hq]
  simp only [hM,hcb,hf,Int.toNat_natCast,if_true,if_pos hq] at hr
  simp [GMessage.cells,zab,eq_true g1,eq_true g2,g3,hf,hfl,hset,w1,hq,hvs,hvs2]
  (repeat refine dr ?_)
  rw [hr]
  refine Ret.weak (retE [] [] [] [] [.inl 0,.inl 1,.inl 2,.inl 3,.inl 4] rfl ?_) (zax _ 4 9)
  simp
 ·have hM : zcV Q m = zbS (leadR (zcD Q m)):=by simp only [zcV,hcb,hH,q3,if_true,if_neg hq]
  simp only [hM,hcb,hf,hH,Int.toNat_natCast,if_true,if_neg hq,leadR] at hr
  have hN:=NxOk.lead J n
  simp [GMessage.cells,zab,eq_true g1,eq_true g2,g3,hf,hfl,hset,w1,hq,hvs,hvs2,h1,h2,h6,hN]
  (repeat refine dr ?_)
  rw [hr]
  refine retN [] [.inl 0,.inl 1,.inl 2,.inl 3,.inl 4] [(0,6),(0,7)] rfl ?_
  simp
end Go.Proofs.YtcpdgbncekdicaaGreat

namespace Go.Proofs.YtcpdgbncekdicaaGreat
open Go.Lift
set_option maxRecDepth 100000
def MtOk (J : JN) (mt : List Int) (n : Int) : Prop:=mt.length = n.toNat ∧ ∀ x ∈ mt,0 ≤ x ∧ x ≤ J.log.length
theorem zuE (l : List Int) (f : Nat) (v : Int) : (zaF l).set f [V.int .i64 v] = zaF (l.set f v):=by simp [zaF,List.map_set]
theorem zAs (y i : Int) : (if 0 < if i < y then i else y then if i < y then i else y else 0) = max 0 (min y i):=by omega
theorem maxE (y i : Int) : (if y < i then i else y) = max y i:=by omega
@[simp] theorem ite_ne0 (p : Prop) [Decidable p] : (if p then 2 else 1) ≠ 0:=by split <;> decide
theorem zxB (l : List Int) (f : Nat) (v : Int) (h : f < l.length) : (l.set f v)[f]? = some v:=by simp [h]
noncomputable def zfE:=fam (fun i : JN × Int × Int × Int × Int × (List Bool) × (List Int) × (List Int) × Nat × Nat × Nat × GMessage=>[V.ptr 0 0 0,zam i.2.2.2.2.2.2.2.2.2.2.2]) (fun i=>[rr i.2.1 i.2.2.1 i.2.2.2.1 i.2.2.2.2.1 (.own 2 0 i.2.2.2.2.2.2.2.2.1) (.own 3 0 i.2.2.2.2.2.2.2.2.2.1) (.own 4 0 i.2.2.2.2.2.2.2.2.2.2.1),rjO i.1,boO i.2.2.2.2.2.1,inO i.2.2.2.2.2.2.1,inO i.2.2.2.2.2.2.2.1]) (fun i=>(i.2.2.2.2.2.2.2.2.1 = i.2.2.2.2.2.1.length) ∧ (i.2.2.2.2.2.2.2.2.2.1 = i.2.2.2.2.2.2.1.length) ∧ (i.2.2.2.2.2.2.2.2.2.2.1 = i.2.2.2.2.2.2.2.1.length) ∧ (0 ≤ i.2.2.1) ∧ (i.2.2.1 ≤ 5) ∧ (0 ≤ i.2.2.2.2.2.2.2.2.2.2.2.From) ∧ (i.2.2.2.2.2.2.2.2.2.2.2.From < i.2.2.1) ∧ (0 ≤ i.2.2.2.2.2.2.2.2.2.2.2.Index) ∧ (0 ≤ i.2.2.2.2.1) ∧ (i.2.2.2.1 = 3 → NxOk i.1 i.2.2.2.2.2.2.1 i.2.2.1 ∧ MtOk i.1 i.2.2.2.2.2.2.2.1 i.2.2.1) ∧ (i.1.log.length ≤ 1000000000)) (fun i=>⟨.sl 2 9 (GMessage.row (zbE (⟨i.1,i.2.1,i.2.2.1,i.2.2.2.1,i.2.2.2.2.1,i.2.2.2.2.2.1,i.2.2.2.2.2.2.1,i.2.2.2.2.2.2.2.1⟩ : RN) i.2.2.2.2.2.2.2.2.2.2.2)),[rr i.2.1 i.2.2.1 i.2.2.2.1 (zaT (⟨i.1,i.2.1,i.2.2.1,i.2.2.2.1,i.2.2.2.2.1,i.2.2.2.2.2.1,i.2.2.2.2.2.2.1,i.2.2.2.2.2.2.2.1⟩ : RN) i.2.2.2.2.2.2.2.2.2.2.2).commit (.own 2 0 i.2.2.2.2.2.2.2.2.1) (.own 3 0 i.2.2.2.2.2.2.2.2.2.1) (.own 4 0 i.2.2.2.2.2.2.2.2.2.2.1),rjO i.1,boO i.2.2.2.2.2.1,inO (zaT (⟨i.1,i.2.1,i.2.2.1,i.2.2.2.1,i.2.2.2.2.1,i.2.2.2.2.2.1,i.2.2.2.2.2.2.1,i.2.2.2.2.2.2.2.1⟩ : RN) i.2.2.2.2.2.2.2.2.2.2.2).next,inO (zaT (⟨i.1,i.2.1,i.2.2.1,i.2.2.2.1,i.2.2.2.2.1,i.2.2.2.2.2.1,i.2.2.2.2.2.2.1,i.2.2.2.2.2.2.2.1⟩ : RN) i.2.2.2.2.2.2.2.2.2.2.2).mt]⟩)
@[simp] theorem zg3 {J : JN} {id n role commit : Int} {votes : List Bool} {next mt : List Int} {a b c : Nat} {m : GMessage} (h1 : a = votes.length) (h2 : b = next.length) (h3 : c = mt.length) (h4 : 0 ≤ n) (h5 : n ≤ 5) (h6 : 0 ≤ m.From) (h7 : m.From < n) (h8 : 0 ≤ m.Index) (h9 : 0 ≤ commit) (h10 : role = 3 → NxOk J next n ∧ MtOk J mt n) (h11 : J.log.length ≤ 1000000000) : zfE ([V.ptr 0 0 0,zam m]) ([rr id n role commit (.own 2 0 a) (.own 3 0 b) (.own 4 0 c),rjO J,boO votes,inO next,inO mt]) = some (⟨.sl 2 9 (GMessage.row (zbE (⟨J,id,n,role,commit,votes,next,mt⟩ : RN) m)),[rr id n role (zaT (⟨J,id,n,role,commit,votes,next,mt⟩ : RN) m).commit (.own 2 0 a) (.own 3 0 b) (.own 4 0 c),rjO J,boO votes,inO (zaT (⟨J,id,n,role,commit,votes,next,mt⟩ : RN) m).next,inO (zaT (⟨J,id,n,role,commit,votes,next,mt⟩ : RN) m).mt]⟩) :=
 zag (by rintro ⟨a0,a1,a2,a3,a4,a5,a6,a7,a8,a9,a10,a11⟩ ⟨b0,b1,b2,b3,b4,b5,b6,b7,b8,b9,b10,b11⟩ h h' <;> simp at h h' <;> simp_all) (J,id,n,role,commit,votes,next,mt,a,b,c,m) ⟨h1,h2,h3,h4,h5,h6,h7,h8,h9,h10,h11⟩
set_option maxHeartbeats 40000000 in
theorem zmF : Lift.Spec Tryz.prog 93 zfE:=by
 refine zad [] (C:=CQ7A) zac zot follows Tryz.func93 (by kernel_rfl) rfl (by kernel_rfl) rfl ?_
 rintro ⟨J,id,n,role,commit,votes,next,mt,a,b,c,m⟩ ⟨ha,hb,hc,h1,h2,h3,h4,h5,h6,h7,h8⟩
 try simp only at ha hb hc h1 h2 h3 h4 h5 h6 h7 h8
 refine ⟨by simp,?_⟩
 intro r hr
 subst ha hb hc
 obtain ⟨Q,hQ⟩ : ∃ Q : RN,Q = ⟨J,id,n,role,commit,votes,next,mt⟩:=⟨_,rfl⟩
 simp only [← hQ] at hr
 have q1 : Q.J = J:=by rw [hQ]
 have q2 : Q.role = role:=by rw [hQ]
 by_cases g1 : role = 3
 rotate_left
 ·skip
  have hS : zaT Q m = Q:=by simp [zaT,q1,q2,g1]
  have hM : zbE Q m = []:=by simp [zbE,q1,q2,g1]
  rw [hS,hM] at hr
  simp only [hQ] at hr
  simp [GMessage.cells,zab,g1]
  (repeat refine dr ?_)
  rw [hr]
  refine Ret.weak (retE [] [] [] [] [.inl 0,.inl 1,.inl 2,.inl 3,.inl 4] rfl ?_) (zax _ 4 9)
  simp
 by_cases g2 : m.Term = J.term
 rotate_left
 ·skip
  have hS : zaT Q m = Q:=by simp [zaT,q1,q2,eq_true g1,g2]
  have hM : zbE Q m = []:=by simp [zbE,q1,q2,eq_true g1,g2]
  rw [hS,hM] at hr
  simp only [hQ] at hr
  simp [GMessage.cells,zab,eq_true g1,g2]
  (repeat refine dr ?_)
  rw [hr]
  refine Ret.weak (retE [] [] [] [] [.inl 0,.inl 1,.inl 2,.inl 3,.inl 4] rfl ?_) (zax _ 4 9)
  simp
 obtain ⟨⟨hn1,hn2⟩,⟨hm1,hm2⟩⟩:=h7 g1
 obtain ⟨f,hf⟩:=Int.eq_ofNat_of_zero_le h3
 have hfn : f < next.length:=by omega
 have hfm : f < mt.length:=by omega
 obtain ⟨y,hy,hy',hym⟩:=zav hfn
 obtain ⟨z,hz,hz',hzm⟩:=zav hfm
 obtain ⟨y0,y1⟩:=hn2 y hym
 obtain ⟨z0,z1⟩:=hm2 z hzm
 have w1 : IntKind.i64.wrap (y - 1) = y - 1:=w64
 cases g3 : m.OK with
 | false =>
  obtain ⟨v,hv⟩ : ∃ v,v = max 0 (min (y - 1) m.Index):=⟨_,rfl⟩
  obtain ⟨u,hu⟩:=Int.eq_ofNat_of_zero_le (show 0 ≤ v by omega)
  have hul : u ≤ J.log.length:=by omega
  have hB : backR Q m = ⟨J,id,n,role,commit,votes,next.set f v,mt⟩:=by rw [hQ]; simp [backR,nxR,hf,hy,hv]
  have hS : zaT Q m = backR Q m:=by simp [zaT,q1,q2,eq_true g1,eq_true g2,g3]
  have hM : zbE Q m = [appM (backR Q m) m.From]:=by simp [zbE,q1,q2,eq_true g1,eq_true g2,g3]
  rw [hS,hM,hB] at hr
  simp only at hr
  have e:=zkc (J:=J) (id:=id) (n:=n) (role:=role) (commit:=commit) (votes:=votes) (next:=next.set f v) (mt:=mt) (a:=votes.length) (b:=next.length) (c:=mt.length) (to:=f) (y:=u) rfl (by simp) rfl (by rw [← hu]; exact zxB _ _ _ hfn) hul h8
  obtain ⟨x,hx⟩ : ∃ x,x = appM (⟨J,id,n,role,commit,votes,next.set f v,mt⟩ : RN) (f : Int):=⟨_,rfl⟩
  rw [← hx] at e
  rw [hf,← hx] at hr
  have hrow : [[V.int .i64 x.Kind,.int .i64 x.From,.int .i64 x.To,.int .i64 x.Term,.int .i64 x.Index,.int .i64 x.PrevTerm,.int .i64 x.Commit,.bool x.OK,.sl 2 10 (GLogged.row x.Entries)]] = GMessage.row [x]:=rfl
  simp [GMessage.cells,zab,eq_true g1,eq_true g2,g3,hf,hfn,hy',w1,zAs,← hv,zuE,e]
  (repeat refine dr ?_)
  rw [hr]
  refine retE [.inr 4] [] [] [] [.inl 0,.inl 1,.inl 2,.inl 3,.inl 4] rfl ?_
  simp [hrow]
 | true =>
  by_cases g4 : m.Index ≤ (J.log.length : Int)
  rotate_left
  ·skip
   have hS : zaT Q m = Q:=by simp [zaT,q1,q2,eq_true g1,eq_true g2,g3,g4]
   have hM : zbE Q m = []:=by simp [zbE,q1,q2,eq_true g1,eq_true g2,g3,g4]
   rw [hS,hM] at hr
   simp only [hQ] at hr
   simp [GMessage.cells,zab,eq_true g1,eq_true g2,g3,g4]
   (repeat refine dr ?_)
   rw [hr]
   refine Ret.weak (retE [] [] [] [] [.inl 0,.inl 1,.inl 2,.inl 3,.inl 4] rfl ?_) (zax _ 4 9)
   simp
  have hF : zfO Q m = ⟨J,id,n,role,commit,votes,next.set f (max z m.Index),mt.set f (max z m.Index)⟩:=by rw [hQ]; simp [zfO,mtR,hf,hz]
  have hS : zaT Q m = advR (zfO Q m):=by simp [zaT,q1,q2,eq_true g1,eq_true g2,g3,g4]
  have hM : zbE Q m = []:=by simp [zbE,q1,q2,eq_true g1,eq_true g2,g3]
  rw [hS,hM,hF] at hr
  simp only [advR] at hr
  have hml : (mt.set f (max z m.Index)).length = n.toNat:=by simp [hm1]
  have hfm2 : f < n.toNat:=by omega
  have hmx : (f : Int) < max n 0:=by omega
  simp [GMessage.cells,zab,eq_true g1,eq_true g2,g3,g4,hf,hfn,hfm,hy',hz',maxE,zuE,h1,h2,hml,hm1,hn1,h8,h6,hfm2,hmx]
  (repeat refine dr ?_)
  rw [hr]
  refine Ret.weak (retE [] [] [] [] [.inl 0,.inl 1,.inl 2,.inl 3,.inl 4] rfl ?_) (zax _ 4 9)
  simp [hml,hm1,hn1]
end Go.Proofs.YtcpdgbncekdicaaGreat

namespace Go.Lift
def cellP (st : St) (l : List (Nat ⊕ Nat)) (cs : List ((Nat ⊕ Nat) × Nat)) : List (Nat ⊕ Nat):=l ++ cs.map fun p=>.inl (zt1 st (pick st p.1) p.2)
theorem retM {T : TypeId → Option TI} {res : List ResultVar} {k : Nat} {e : Exit} {st : St} {v : V} {os : List AObj} (nl : List ((Nat ⊕ Nat) × Nat × TypeId × Nat)) (l : List (Nat ⊕ Nat)) (cs : List ((Nat ⊕ Nat) × Nat)) (he : isEnd e = true)
 (h : retV T (zcH nl [] st) res = some (v.ren (zaK (zcH nl [] st) (cellP (zcH nl [] st) l cs))) ∧ zgW (zaK (zcH nl [] st) (cellP (zcH nl [] st) l cs)) (zcH nl [] st) 0 os ∧ k ≤ os.length ∧ (∀ j,j < k → zaK (zcH nl [] st) (cellP (zcH nl [] st) l cs) j = j) ∧
  injL (zaK (zcH nl [] st) (cellP (zcH nl [] st) l cs)) 0 os ∧ v.within (fun j=>decide (j < os.length)) = true ∧ ∀ o ∈ os,o.within (fun j=>decide (j < os.length)) = true) : Ret T res ⟨v,os⟩ k e st:=retC nl [] (cellP (zcH nl [] st) l cs) he h
attribute [simp] cellP
end Go.Lift
namespace Go.Proofs.YtcpdgbncekdicaaGreat
open Go.Lift
set_option maxRecDepth 100000
noncomputable def ziJ:=fam (fun _ : JN × Int × Int × Int × Int × (List Bool) × (List Int) × (List Int) × Nat × Nat × Nat=>[V.ptr 0 0 0]) (fun i=>[rr i.2.1 i.2.2.1 i.2.2.2.1 i.2.2.2.2.1 (.own 2 0 i.2.2.2.2.2.2.2.2.1) (.own 3 0 i.2.2.2.2.2.2.2.2.2.1) (.own 4 0 i.2.2.2.2.2.2.2.2.2.2),rjO i.1,boO i.2.2.2.2.2.1,inO i.2.2.2.2.2.2.1,inO i.2.2.2.2.2.2.2.1]) (fun i=>(i.2.2.2.2.2.2.2.2.1 = i.2.2.2.2.2.1.length) ∧ (i.2.2.2.2.2.2.2.2.2.1 = i.2.2.2.2.2.2.1.length) ∧ (i.2.2.2.2.2.2.2.2.2.2 = i.2.2.2.2.2.2.2.1.length) ∧ (0 ≤ i.2.2.1) ∧ (i.2.2.1 ≤ 5) ∧ (i.2.2.2.1 = 3 → NxOk i.1 i.2.2.2.2.2.2.1 i.2.2.1) ∧ (i.1.log.length ≤ 1000000000)) (fun i=>⟨.sl 2 9 (GMessage.row (beatM (⟨i.1,i.2.1,i.2.2.1,i.2.2.2.1,i.2.2.2.2.1,i.2.2.2.2.2.1,i.2.2.2.2.2.2.1,i.2.2.2.2.2.2.2.1⟩ : RN))),[rr i.2.1 i.2.2.1 i.2.2.2.1 i.2.2.2.2.1 (.own 2 0 i.2.2.2.2.2.2.2.2.1) (.own 3 0 i.2.2.2.2.2.2.2.2.2.1) (.own 4 0 i.2.2.2.2.2.2.2.2.2.2),rjO i.1,boO i.2.2.2.2.2.1,inO i.2.2.2.2.2.2.1,inO i.2.2.2.2.2.2.2.1]⟩)
@[simp] theorem zpO {J : JN} {id n role commit : Int} {votes : List Bool} {next mt : List Int} {a b c : Nat} (h1 : a = votes.length) (h2 : b = next.length) (h3 : c = mt.length) (h4 : 0 ≤ n) (h5 : n ≤ 5) (h6 : role = 3 → NxOk J next n) (h7 : J.log.length ≤ 1000000000) : ziJ ([V.ptr 0 0 0]) ([rr id n role commit (.own 2 0 a) (.own 3 0 b) (.own 4 0 c),rjO J,boO votes,inO next,inO mt]) = some (⟨.sl 2 9 (GMessage.row (beatM (⟨J,id,n,role,commit,votes,next,mt⟩ : RN))),[rr id n role commit (.own 2 0 a) (.own 3 0 b) (.own 4 0 c),rjO J,boO votes,inO next,inO mt]⟩) :=
 zag (by rintro ⟨a0,a1,a2,a3,a4,a5,a6,a7,a8,a9,a10⟩ ⟨b0,b1,b2,b3,b4,b5,b6,b7,b8,b9,b10⟩ h h' <;> simp at h h' <;> simp_all) (J,id,n,role,commit,votes,next,mt,a,b,c) ⟨h1,h2,h3,h4,h5,h6,h7⟩
theorem zpP : Lift.Spec Tryz.prog 51 ziJ:=by
 refine zad [] (C:=CQ7A) zac zot follows Tryz.func51 (by kernel_rfl) rfl (by kernel_rfl) rfl ?_
 rintro ⟨J,id,n,role,commit,votes,next,mt,a,b,c⟩ ⟨ha,hb,hc,h1,h2,h3,h4⟩
 try simp only at ha hb hc h1 h2 h3 h4
 refine ⟨by simp,?_⟩
 intro r hr
 subst ha hb hc
 by_cases g1 : role = 3
 ·have hn:=h3 g1
  simp [eq_true g1,h1,h2,hn,h4]
  rw [hr]
  refine retE [] [] [] [] [.inl 0,.inl 1,.inl 2,.inl 3,.inl 4] rfl ?_
  simp [beatM,g1]
 ·simp [g1]
  rw [hr]
  refine Ret.weak (retE [] [] [] [] [.inl 0,.inl 1,.inl 2,.inl 3,.inl 4] rfl ?_) (zax _ 2 9)
  simp [beatM,g1]
noncomputable def CQ9A:=mkC [(83,zdo),(84,zdL),(85,zhx),(86,zd9)]
theorem zyE : zai Tryz.prog CQ9A:=zat (all_cons zgP (all_cons zgh (all_cons zlq (all_cons zh5 all_nil))))
@[simp] theorem CQ9A_1 : CQ9A 83 = zdo:=rfl
@[simp] theorem CQ9A_2 : CQ9A 84 = zdL:=rfl
@[simp] theorem CQ9A_3 : CQ9A 85 = zhx:=rfl
@[simp] theorem CQ9A_4 : CQ9A 86 = zd9:=rfl
@[simp] theorem bo_foldn : (⟨4,1,[],false,2,.rw⟩ : AObj) = boO []:=rfl
@[simp] theorem in_foldn : (⟨3,1,[],false,2,.rw⟩ : AObj) = inO []:=rfl
theorem NxOk.more {J K : JN} {next : List Int} {n : Int} (h : NxOk J next n) (hl : J.log.length ≤ K.log.length) : NxOk K next n:=⟨h.1,fun x hx=>by have:=h.2 x hx; omega⟩
theorem MtOk.more {J K : JN} {mt : List Int} {n : Int} (h : MtOk J mt n) (hl : J.log.length ≤ K.log.length) : MtOk K mt n:=⟨h.1,fun x hx=>by have:=h.2 x hx; omega⟩
noncomputable def zey:=fam (fun i : JN × Int × Int × Int × Int × (List Bool) × (List Int) × (List Int) × Nat × Nat × Nat × GEntry=>[V.ptr 0 0 0,zaB i.2.2.2.2.2.2.2.2.2.2.2]) (fun i=>[rr i.2.1 i.2.2.1 i.2.2.2.1 i.2.2.2.2.1 (.own 2 0 i.2.2.2.2.2.2.2.2.1) (.own 3 0 i.2.2.2.2.2.2.2.2.2.1) (.own 4 0 i.2.2.2.2.2.2.2.2.2.2.1),rjO i.1,boO i.2.2.2.2.2.1,inO i.2.2.2.2.2.2.1,inO i.2.2.2.2.2.2.2.1]) (fun i=>(i.2.2.2.2.2.2.2.2.1 = i.2.2.2.2.2.1.length) ∧ (i.2.2.2.2.2.2.2.2.2.1 = i.2.2.2.2.2.2.1.length) ∧ (i.2.2.2.2.2.2.2.2.2.2.1 = i.2.2.2.2.2.2.2.1.length) ∧ (0 ≤ i.2.2.1) ∧ (i.2.2.1 ≤ 5) ∧ (0 ≤ i.2.2.2.2.1) ∧ (i.2.2.2.1 = 3 → NxOk i.1 i.2.2.2.2.2.2.1 i.2.2.1 ∧ MtOk i.1 i.2.2.2.2.2.2.2.1 i.2.2.1) ∧ (i.1.b.length ≤ 900000000) ∧ (i.1.log.length ≤ 900000000) ∧ (In64 i.1.term) ∧ (GEntry.ok i.2.2.2.2.2.2.2.2.2.2.2)) (fun i=>⟨.tup [.sl 2 9 (GMessage.row (propM (⟨i.1,i.2.1,i.2.2.1,i.2.2.2.1,i.2.2.2.2.1,i.2.2.2.2.2.1,i.2.2.2.2.2.2.1,i.2.2.2.2.2.2.2.1⟩ : RN) i.2.2.2.2.2.2.2.2.2.2.2)),.int .i64 (propE (⟨i.1,i.2.1,i.2.2.1,i.2.2.2.1,i.2.2.2.2.1,i.2.2.2.2.2.1,i.2.2.2.2.2.2.1,i.2.2.2.2.2.2.2.1⟩ : RN) i.2.2.2.2.2.2.2.2.2.2.2)],[rr i.2.1 i.2.2.1 i.2.2.2.1 (propR (⟨i.1,i.2.1,i.2.2.1,i.2.2.2.1,i.2.2.2.2.1,i.2.2.2.2.2.1,i.2.2.2.2.2.2.1,i.2.2.2.2.2.2.2.1⟩ : RN) i.2.2.2.2.2.2.2.2.2.2.2).commit (.own 2 0 i.2.2.2.2.2.2.2.2.1) (.own 3 0 i.2.2.2.2.2.2.2.2.2.1) (.own 4 0 i.2.2.2.2.2.2.2.2.2.2.1),rjO (propR (⟨i.1,i.2.1,i.2.2.1,i.2.2.2.1,i.2.2.2.2.1,i.2.2.2.2.2.1,i.2.2.2.2.2.2.1,i.2.2.2.2.2.2.2.1⟩ : RN) i.2.2.2.2.2.2.2.2.2.2.2).J,boO i.2.2.2.2.2.1,inO i.2.2.2.2.2.2.1,inO i.2.2.2.2.2.2.2.1]⟩)
@[simp] theorem zfQ {J : JN} {id n role commit : Int} {votes : List Bool} {next mt : List Int} {a b c : Nat} {e : GEntry} (h1 : a = votes.length) (h2 : b = next.length) (h3 : c = mt.length) (h4 : 0 ≤ n) (h5 : n ≤ 5) (h6 : 0 ≤ commit) (h7 : role = 3 → NxOk J next n ∧ MtOk J mt n) (h8 : J.b.length ≤ 900000000) (h9 : J.log.length ≤ 900000000) (h10 : In64 J.term) (h11 : GEntry.ok e) : zey ([V.ptr 0 0 0,zaB e]) ([rr id n role commit (.own 2 0 a) (.own 3 0 b) (.own 4 0 c),rjO J,boO votes,inO next,inO mt]) = some (⟨.tup [.sl 2 9 (GMessage.row (propM (⟨J,id,n,role,commit,votes,next,mt⟩ : RN) e)),.int .i64 (propE (⟨J,id,n,role,commit,votes,next,mt⟩ : RN) e)],[rr id n role (propR (⟨J,id,n,role,commit,votes,next,mt⟩ : RN) e).commit (.own 2 0 a) (.own 3 0 b) (.own 4 0 c),rjO (propR (⟨J,id,n,role,commit,votes,next,mt⟩ : RN) e).J,boO votes,inO next,inO mt]⟩) :=
 zag (by rintro ⟨a0,a1,a2,a3,a4,a5,a6,a7,a8,a9,a10,a11⟩ ⟨b0,b1,b2,b3,b4,b5,b6,b7,b8,b9,b10,b11⟩ h h' <;> simp at h h' <;> simp_all) (J,id,n,role,commit,votes,next,mt,a,b,c,e) ⟨h1,h2,h3,h4,h5,h6,h7,h8,h9,h10,h11⟩
set_option maxHeartbeats 8000000 in
theorem zkL : Lift.Spec Tryz.prog 49 zey:=by
 refine zad [] (C:=CQ9A) zac zyE follows Tryz.func49 (by kernel_rfl) rfl (by kernel_rfl) rfl ?_
 rintro ⟨J,id,n,role,commit,votes,next,mt,a,b,c,e⟩ ⟨ha,hb,hc,h1,h2,h3,h4,h5,h6,h7,h8⟩
 try simp only at ha hb hc h1 h2 h3 h4 h5 h6 h7 h8
 refine ⟨by simp,?_⟩
 intro r hr
 subst ha hb hc
 obtain ⟨Q,hQ⟩ : ∃ Q : RN,Q = ⟨J,id,n,role,commit,votes,next,mt⟩:=⟨_,rfl⟩
 simp only [← hQ] at hr
 have q1 : Q.J = J:=by rw [hQ]
 have q2 : Q.role = role:=by rw [hQ]
 have h51 : J.b.length ≤ 1000000000:=by omega
 have h61 : J.log.length ≤ 1000000000:=by omega
 by_cases g1 : role = 3
 rotate_left
 ·have hE : propE Q e = 4:=by simp [propE,q2,g1]
  have hR : propR Q e = Q:=by simp [propR,hE]
  have hM : propM Q e = []:=by simp [propM,hE]
  rw [hE,hR,hM] at hr
  simp only [hQ] at hr
  simp [g1,GEntry.cells]
  rw [hr]
  refine Ret.weak (retE [] [] [] [] [.inl 0,.inl 1,.inl 2,.inl 3,.inl 4] rfl ?_) (zax _ 4 9)
  simp
 by_cases g2 : adE J J.term e = 0
 rotate_left
 ·have hE : propE Q e = adE J J.term e:=by simp [propE,q1,q2,g1]
  have hR : propR Q e = Q:=by simp [propR,hE,g2]
  have hM : propM Q e = []:=by simp [propM,hE,g2]
  have hA : zaw J J.term e = J:=by simp [zaw,g2]
  rw [hE,hR,hM] at hr
  simp only [hQ] at hr
  simp [eq_true g1,GEntry.cells,h51,h61,h7,h8,g2,hA]
  (repeat refine dr ?_)
  rw [hr]
  refine Ret.weak (retE [] [] [] [] [.inl 0,.inl 1,.inl 2,.inl 3,.inl 4] rfl ?_) (zax _ 4 9)
  simp
 ·obtain ⟨hn,hm⟩:=h4 g1
  have hE : propE Q e = 0:=by simp [propE,q1,q2,g1,g2]
  obtain ⟨K,hK⟩ : ∃ K,K = zaw J J.term e:=⟨_,rfl⟩
  have hbd:=zb3 J J.term e
  rw [← hK] at hbd
  have hlog:=za5 J J.term e
  rw [← hK,if_pos g2] at hlog
  have hll : J.log.length ≤ (syncJ K).log.length:=by rw [zaZ,hlog]; simp
  have hl3 : K.log.length ≤ 1000000000:=by rw [hlog]; simp; omega
  have hl4 : (syncJ K).log.length ≤ 1000000000:=hl3
  have hb3 : K.b.length ≤ 4611686018427387904:=by omega
  have hn2:=hn.more hll
  have hm2:=(hm.more hll).1
  have hR : propR Q e = ⟨syncJ K,id,n,role,advGo ⟨syncJ K,id,n,role,commit,votes,next,mt⟩ K.log.length,votes,next,mt⟩:=by
   rw [propR,if_pos hE,q1,← hK,hQ]; rfl
  have hM : propM Q e = zbS (propR Q e):=by rw [propM,if_pos hE]
  rw [hE,hM,hR] at hr
  simp only at hr
  simp [eq_true g1,GEntry.cells,h51,h61,h7,h8,g2,← hK,hb3,h1,h2,h3,hm2,hl3,hl4,hn2]
  (repeat refine dr ?_)
  rw [hr]
  refine retE [] [] [] [] [.inl 0,.inl 1,.inl 2,.inl 3,.inl 4] rfl ?_
  simp [hm2]
noncomputable def CQ9B:=mkC [(88,zgQ),(28,zjV)]
theorem ztz : zai Tryz.prog CQ9B:=zat (all_cons znL (all_cons zsd all_nil))
@[simp] theorem CQ9B_1 : CQ9B 88 = zgQ:=rfl
@[simp] theorem CQ9B_2 : CQ9B 28 = zjV:=rfl
noncomputable def zg1:=fam (fun i : JN × Int × Int × Int × Int × (List Bool) × (List Int) × (List Int) × Nat × Nat × Nat × Int=>[V.ptr 0 0 0,.int .i64 i.2.2.2.2.2.2.2.2.2.2.2]) (fun i=>[rr i.2.1 i.2.2.1 i.2.2.2.1 i.2.2.2.2.1 (.own 2 0 i.2.2.2.2.2.2.2.2.1) (.own 3 0 i.2.2.2.2.2.2.2.2.2.1) (.own 4 0 i.2.2.2.2.2.2.2.2.2.2.1),rjO i.1,boO i.2.2.2.2.2.1,inO i.2.2.2.2.2.2.1,inO i.2.2.2.2.2.2.2.1]) (fun i=>(i.2.2.2.2.2.2.2.2.1 = i.2.2.2.2.2.1.length) ∧ (i.2.2.2.2.2.2.2.2.2.1 = i.2.2.2.2.2.2.1.length) ∧ (i.2.2.2.2.2.2.2.2.2.2.1 = i.2.2.2.2.2.2.2.1.length) ∧ (i.1.b.length ≤ 1000000000) ∧ (i.1.d ≤ i.1.b.length)) (fun i=>⟨.tup [],[rr i.2.1 i.2.2.1 1 0 (.own 5 0 0) (.own 3 0 i.2.2.2.2.2.2.2.2.2.1) (.own 4 0 i.2.2.2.2.2.2.2.2.2.2.1),rjO (crashJ i.1 i.2.2.2.2.2.2.2.2.2.2.2),boO i.2.2.2.2.2.1,inO i.2.2.2.2.2.2.1,inO i.2.2.2.2.2.2.2.1,boO []]⟩)
@[simp] theorem zoc {J : JN} {id n role commit : Int} {votes : List Bool} {next mt : List Int} {a b c : Nat} {keep : Int} (h1 : a = votes.length) (h2 : b = next.length) (h3 : c = mt.length) (h4 : J.b.length ≤ 1000000000) (h5 : J.d ≤ J.b.length) : zg1 ([V.ptr 0 0 0,.int .i64 keep]) ([rr id n role commit (.own 2 0 a) (.own 3 0 b) (.own 4 0 c),rjO J,boO votes,inO next,inO mt]) = some (⟨.tup [],[rr id n 1 0 (.own 5 0 0) (.own 3 0 b) (.own 4 0 c),rjO (crashJ J keep),boO votes,inO next,inO mt,boO []]⟩) :=
 zag (by rintro ⟨a0,a1,a2,a3,a4,a5,a6,a7,a8,a9,a10,a11⟩ ⟨b0,b1,b2,b3,b4,b5,b6,b7,b8,b9,b10,b11⟩ h h' <;> simp at h h' <;> simp_all) (J,id,n,role,commit,votes,next,mt,a,b,c,keep) ⟨h1,h2,h3,h4,h5⟩
theorem zod : Lift.Spec Tryz.prog 53 zg1:=by
 refine zad [] (C:=CQ9B) zac ztz follows Tryz.func53 (by kernel_rfl) rfl (by kernel_rfl) rfl ?_
 rintro ⟨J,id,n,role,commit,votes,next,mt,a,b,c,keep⟩ ⟨ha,hb,hc,h1,h2⟩
 try simp only at ha hb hc h1 h2
 refine ⟨by simp,?_⟩
 intro r hr
 subst ha hb hc
 simp [h1,h2]
 rw [hr]
 refine retM [(.inl 0,5,4,1)] [.inl 0,.inl 1,.inl 2,.inl 3,.inl 4] [(.inl 0,5)] rfl ?_
 simp
def zcE (id n : Int) : CRes:=if n < 1 ∨ 5 < n ∨ n % 2 = 0 ∨ id < 0 ∨ n ≤ id then ⟨.tup [.pnil,.int .i64 1],[]⟩ else ⟨.tup [.ptr 0 0 0,.int .i64 0],[rr id n 1 0 (.own 2 0 0) (.own 3 0 0) (.own 4 0 0),rjO zeroJ,boO [],inO [],inO []]⟩
noncomputable def zhy:=fam (fun i : Int × Int=>[V.int .i64 i.1,.int .i64 i.2]) (fun _=>[]) (fun _=>True) (fun i=>zcE i.1 i.2)
@[simp] theorem rrNewSp_eq {id n : Int}  : zhy ([V.int .i64 id,.int .i64 n]) ([]) = some (zcE id n) :=
 zag (by rintro ⟨a0,a1⟩ ⟨b0,b1⟩ h h' <;> simp at h h' <;> simp_all) (id,n) trivial
theorem zlr : Lift.Spec Tryz.prog 9 zhy:=by
 refine zaj (C:=CQ9B) zac ztz follows Tryz.func9 (by kernel_rfl) rfl (by kernel_rfl) rfl ?_
 rintro ⟨id,n⟩ _
 try simp only at _
 refine ⟨by simp,?_⟩
 intro r hr
 by_cases g1 : n < 1
 ·have hN : zcE id n = ⟨.tup [.pnil,.int .i64 1],[]⟩:=by rw [zcE,if_pos (.inl g1)]
  simp only [hN] at hr
  simp [g1]
  ((repeat refine dr ?_); rw [hr]; refine zaa rfl ?_ rfl; simp)
 by_cases g2 : 5 < n
 ·have hN : zcE id n = ⟨.tup [.pnil,.int .i64 1],[]⟩:=by rw [zcE,if_pos (.inr (.inl g2))]
  simp only [hN] at hr
  simp [g1,g2]
  ((repeat refine dr ?_); rw [hr]; refine zaa rfl ?_ rfl; simp)
 by_cases g3 : n % 2 = 0
 ·have hN : zcE id n = ⟨.tup [.pnil,.int .i64 1],[]⟩:=by rw [zcE,if_pos (.inr (.inr (.inl g3)))]
  have g3' : n.tmod 2 = 0:=by rw [Int.tmod_eq_emod_of_nonneg (by omega)]; exact g3
  simp only [hN] at hr
  simp [g1,g2,g3,g3']
  ((repeat refine dr ?_); rw [hr]; refine zaa rfl ?_ rfl; simp)
 have g3' : ¬ n.tmod 2 = 0:=by rw [Int.tmod_eq_emod_of_nonneg (by omega)]; exact g3
 by_cases g4 : id < 0
 ·have hN : zcE id n = ⟨.tup [.pnil,.int .i64 1],[]⟩:=by rw [zcE,if_pos (.inr (.inr (.inr (.inl g4))))]
  simp only [hN] at hr
  simp [g1,g2,g3,g3',g4]
  ((repeat refine dr ?_); rw [hr]; refine zaa rfl ?_ rfl; simp)
 by_cases g5 : n ≤ id
 ·have hN : zcE id n = ⟨.tup [.pnil,.int .i64 1],[]⟩:=by rw [zcE,if_pos (.inr (.inr (.inr (.inr g5))))]
  simp only [hN] at hr
  simp [g1,g2,g3,g3',g4,g5]
  ((repeat refine dr ?_); rw [hr]; refine zaa rfl ?_ rfl; simp)
 ·have hN : zcE id n = ⟨.tup [.ptr 0 0 0,.int .i64 0],[rr id n 1 0 (.own 2 0 0) (.own 3 0 0) (.own 4 0 0),rjO zeroJ,boO [],inO [],inO []]⟩:=by rw [zcE,if_neg (by omega)]
  simp only [hN] at hr
  simp [g1,g2,g3,g3',g4,g5]
  (repeat refine dr ?_)
  rw [hr]
  refine retM [(.inr 4,5,4,1),(.inr 4,6,3,1),(.inr 4,7,3,1)] [.inr 4] [(.inr 4,0),(.inr 4,5),(.inr 4,6),(.inr 4,7)] rfl ?_
  simp
end Go.Proofs.YtcpdgbncekdicaaGreat

namespace Go.Proofs.YtcpdgbncekdicaaGreat
open Go.Lift
set_option maxRecDepth 100000
noncomputable def CQ5:=mkC [(120,zcz)]
theorem zAc : zai Tryz.prog CQ5:=zat (all_cons zet all_nil)
@[simp] theorem CQ5_1 : CQ5 120 = zcz:=rfl
def mgO (m : GMessage) : AObj:=⟨41,9,[GMessage.cells m],true,1,.rw⟩
noncomputable def zfD:=fam (fun i : JN × Int × Int × Int × Int × (List Bool) × (List Int) × (List Int) × Nat × Nat × Nat × GMessage=>[V.ptr 0 0 0,zam i.2.2.2.2.2.2.2.2.2.2.2]) (fun i=>[rr i.2.1 i.2.2.1 i.2.2.2.1 i.2.2.2.2.1 (.own 2 0 i.2.2.2.2.2.2.2.2.1) (.own 3 0 i.2.2.2.2.2.2.2.2.2.1) (.own 4 0 i.2.2.2.2.2.2.2.2.2.2.1),rjO i.1,boO i.2.2.2.2.2.1,inO i.2.2.2.2.2.2.1,inO i.2.2.2.2.2.2.2.1]) (fun i=>(i.2.2.2.2.2.2.2.2.1 = i.2.2.2.2.2.1.length) ∧ (i.2.2.2.2.2.2.2.2.2.1 = i.2.2.2.2.2.2.1.length) ∧ (i.2.2.2.2.2.2.2.2.2.2.1 = i.2.2.2.2.2.2.2.1.length)) (fun i=>⟨.bool (zaI (⟨i.1,i.2.1,i.2.2.1,i.2.2.2.1,i.2.2.2.2.1,i.2.2.2.2.2.1,i.2.2.2.2.2.2.1,i.2.2.2.2.2.2.2.1⟩ : RN) i.2.2.2.2.2.2.2.2.2.2.2),[rr i.2.1 i.2.2.1 i.2.2.2.1 i.2.2.2.2.1 (.own 2 0 i.2.2.2.2.2.2.2.2.1) (.own 3 0 i.2.2.2.2.2.2.2.2.2.1) (.own 4 0 i.2.2.2.2.2.2.2.2.2.2.1),rjO i.1,boO i.2.2.2.2.2.1,inO i.2.2.2.2.2.2.1,inO i.2.2.2.2.2.2.2.1]⟩)
@[simp] theorem rrProperSp_eq {J : JN} {id n role commit : Int} {votes : List Bool} {next mt : List Int} {a b c : Nat} {m : GMessage} (h1 : a = votes.length) (h2 : b = next.length) (h3 : c = mt.length) : zfD ([V.ptr 0 0 0,zam m]) ([rr id n role commit (.own 2 0 a) (.own 3 0 b) (.own 4 0 c),rjO J,boO votes,inO next,inO mt]) = some (⟨.bool (zaI (⟨J,id,n,role,commit,votes,next,mt⟩ : RN) m),[rr id n role commit (.own 2 0 a) (.own 3 0 b) (.own 4 0 c),rjO J,boO votes,inO next,inO mt]⟩) :=
 zag (by rintro ⟨a0,a1,a2,a3,a4,a5,a6,a7,a8,a9,a10,a11⟩ ⟨b0,b1,b2,b3,b4,b5,b6,b7,b8,b9,b10,b11⟩ h h' <;> simp at h h' <;> simp_all) (J,id,n,role,commit,votes,next,mt,a,b,c,m) ⟨h1,h2,h3⟩
def prSt (J : JN) (id n role commit : Int) (votes : List Bool) (next mt : List Int) (m : GMessage) (i : Nat × Int) : St:=mkSt [(0,.ptr 0 0 0),(3,.ptr 5 0 0),(6,.int .i64 i.2),(7,.int .i64 i.1)] [(0,rr id n role commit (.own 2 0 votes.length) (.own 3 0 next.length) (.own 4 0 mt.length)),(1,rjO J),(2,boO votes),(3,inO next),(4,inO mt),(5,mgO m)] 6
@[simp] theorem one_le_iteP (p : Prop) [Decidable p] : (1 ≤ if p then 2 else 1) = True:=by split <;> simp
theorem zuP (x : Int) : (if 1 < x then x else 1) = max 1 x:=by omega
set_option maxHeartbeats 40000000 in
theorem zmE : Lift.Spec Tryz.prog 89 zfD:=by
 refine zad [] (C:=CQ5) zac zAc follows Tryz.func89 (by kernel_rfl) rfl (by kernel_rfl) rfl ?_
 rintro ⟨J,id,n,role,commit,votes,next,mt,a,b,c,m⟩ ⟨ha,hb,hc⟩
 try simp only at ha hb hc
 refine ⟨by simp,?_⟩
 intro r hr
 subst ha hb hc
 obtain ⟨pb,hpb⟩ : ∃ pb,pb = zaI (⟨J,id,n,role,commit,votes,next,mt⟩ : RN) m:=⟨_,rfl⟩
 simp only [← hpb] at hr
 by_cases g0 : m.To = id
 rotate_left
 ·simp [GMessage.cells,zab,g0]
  have hP : pb = false:=by rw [hpb]; simp [zaI,goodM,g0]
  (repeat refine dr ?_)
  rw [hr,hP]
  refine retE [] [] [] [] [.inl 0,.inl 1,.inl 2,.inl 3,.inl 4] rfl ?_
  simp
 by_cases g1 : 0 ≤ m.From
 rotate_left
 ·simp [GMessage.cells,zab,eq_true g0,g1]
  have hP : pb = false:=by rw [hpb]; simp [zaI,goodM,eq_true g0,g1]
  (repeat refine dr ?_)
  rw [hr,hP]
  refine retE [] [] [] [] [.inl 0,.inl 1,.inl 2,.inl 3,.inl 4] rfl ?_
  simp
 by_cases g2 : m.From < n
 rotate_left
 ·simp [GMessage.cells,zab,eq_true g0,g1,g2]
  have hP : pb = false:=by rw [hpb]; simp [zaI,goodM,eq_true g0,g1,g2]
  (repeat refine dr ?_)
  rw [hr,hP]
  refine retE [] [] [] [] [.inl 0,.inl 1,.inl 2,.inl 3,.inl 4] rfl ?_
  simp
 by_cases g3 : m.From = id
 ·simp [GMessage.cells,zab,eq_true g0,g1,g2,eq_true g3]
  have hP : pb = false:=by rw [hpb]; simp [zaI,goodM,eq_true g0,g1,g2,eq_true g3]
  (repeat refine dr ?_)
  rw [hr,hP]
  refine retE [] [] [] [] [.inl 0,.inl 1,.inl 2,.inl 3,.inl 4] rfl ?_
  simp
 by_cases g4 : 1 ≤ m.Kind
 rotate_left
 ·simp [GMessage.cells,zab,eq_true g0,g1,g2,g3,g4]
  have hP : pb = false:=by rw [hpb]; simp [zaI,goodM,eq_true g0,g1,g2,g3,g4]
  (repeat refine dr ?_)
  rw [hr,hP]
  refine retE [] [] [] [] [.inl 0,.inl 1,.inl 2,.inl 3,.inl 4] rfl ?_
  simp
 by_cases g5 : m.Kind ≤ 4
 rotate_left
 ·simp [GMessage.cells,zab,eq_true g0,g1,g2,g3,g4,g5]
  have hP : pb = false:=by rw [hpb]; simp [zaI,goodM,eq_true g0,g1,g2,g3,g4,g5]
  (repeat refine dr ?_)
  rw [hr,hP]
  refine retE [] [] [] [] [.inl 0,.inl 1,.inl 2,.inl 3,.inl 4] rfl ?_
  simp
 by_cases g6 : 1 ≤ m.Term
 rotate_left
 ·simp [GMessage.cells,zab,eq_true g0,g1,g2,g3,g4,g5,g6]
  have hP : pb = false:=by rw [hpb]; simp [zaI,goodM,eq_true g0,g1,g2,g3,g4,g5,g6]
  (repeat refine dr ?_)
  rw [hr,hP]
  refine retE [] [] [] [] [.inl 0,.inl 1,.inl 2,.inl 3,.inl 4] rfl ?_
  simp
 by_cases g7 : m.Term ≤ 1073741824
 rotate_left
 ·simp [GMessage.cells,zab,eq_true g0,g1,g2,g3,g4,g5,g6,g7]
  have hP : pb = false:=by rw [hpb]; simp [zaI,goodM,eq_true g0,g1,g2,g3,g4,g5,g6,g7]
  (repeat refine dr ?_)
  rw [hr,hP]
  refine retE [] [] [] [] [.inl 0,.inl 1,.inl 2,.inl 3,.inl 4] rfl ?_
  simp
 by_cases g8 : 0 ≤ m.Index
 rotate_left
 ·simp [GMessage.cells,zab,eq_true g0,g1,g2,g3,g4,g5,g6,g7,g8]
  have hP : pb = false:=by rw [hpb]; simp [zaI,goodM,eq_true g0,g1,g2,g3,g4,g5,g6,g7,g8]
  (repeat refine dr ?_)
  rw [hr,hP]
  refine retE [] [] [] [] [.inl 0,.inl 1,.inl 2,.inl 3,.inl 4] rfl ?_
  simp
 by_cases g9 : m.Index ≤ 4096
 rotate_left
 ·simp [GMessage.cells,zab,eq_true g0,g1,g2,g3,g4,g5,g6,g7,g8,g9]
  have hP : pb = false:=by rw [hpb]; simp [zaI,goodM,eq_true g0,g1,g2,g3,g4,g5,g6,g7,g8,g9]
  (repeat refine dr ?_)
  rw [hr,hP]
  refine retE [] [] [] [] [.inl 0,.inl 1,.inl 2,.inl 3,.inl 4] rfl ?_
  simp
 by_cases g10 : 0 ≤ m.PrevTerm
 rotate_left
 ·simp [GMessage.cells,zab,eq_true g0,g1,g2,g3,g4,g5,g6,g7,g8,g9,g10]
  have hP : pb = false:=by rw [hpb]; simp [zaI,goodM,eq_true g0,g1,g2,g3,g4,g5,g6,g7,g8,g9,g10]
  (repeat refine dr ?_)
  rw [hr,hP]
  refine retE [] [] [] [] [.inl 0,.inl 1,.inl 2,.inl 3,.inl 4] rfl ?_
  simp
 by_cases g11 : m.PrevTerm ≤ m.Term
 rotate_left
 ·simp [GMessage.cells,zab,eq_true g0,g1,g2,g3,g4,g5,g6,g7,g8,g9,g10,g11]
  have hP : pb = false:=by rw [hpb]; simp [zaI,goodM,eq_true g0,g1,g2,g3,g4,g5,g6,g7,g8,g9,g10,g11]
  (repeat refine dr ?_)
  rw [hr,hP]
  refine retE [] [] [] [] [.inl 0,.inl 1,.inl 2,.inl 3,.inl 4] rfl ?_
  simp
 by_cases g12 : 0 ≤ m.Commit
 rotate_left
 ·simp [GMessage.cells,zab,eq_true g0,g1,g2,g3,g4,g5,g6,g7,g8,g9,g10,g11,g12]
  have hP : pb = false:=by rw [hpb]; simp [zaI,goodM,eq_true g0,g1,g2,g3,g4,g5,g6,g7,g8,g9,g10,g11,g12]
  (repeat refine dr ?_)
  rw [hr,hP]
  refine retE [] [] [] [] [.inl 0,.inl 1,.inl 2,.inl 3,.inl 4] rfl ?_
  simp
 by_cases g13 : m.Commit ≤ 4096
 rotate_left
 ·simp [GMessage.cells,zab,eq_true g0,g1,g2,g3,g4,g5,g6,g7,g8,g9,g10,g11,g12,g13]
  have hP : pb = false:=by rw [hpb]; simp [zaI,goodM,eq_true g0,g1,g2,g3,g4,g5,g6,g7,g8,g9,g10,g11,g12,g13]
  (repeat refine dr ?_)
  rw [hr,hP]
  refine retE [] [] [] [] [.inl 0,.inl 1,.inl 2,.inl 3,.inl 4] rfl ?_
  simp
 by_cases hk : m.Kind = 3
 rotate_left
 ·simp [GMessage.cells,zab,hk,eq_true g0,g1,g2,g3,g4,g5,g6,g7,g8,g9,g10,g11,g12,g13]
  have hP : pb = true:=by rw [hpb]; simp [zaI,goodM,eq_true g0,g1,g2,g3,g4,g5,g6,g7,g8,g9,g10,g11,g12,g13,hk]
  (repeat refine dr ?_)
  rw [hr,hP]
  refine retE [] [] [] [] [.inl 0,.inl 1,.inl 2,.inl 3,.inl 4] rfl ?_
  simp
 have w1 : IntKind.i64.wrap (4096 - m.Index) = 4096 - m.Index:=w64
 obtain ⟨tl,htl⟩ : ∃ tl : Bool,tl = entsB (max 1 m.PrevTerm) m.Term m.Entries:=⟨_,rfl⟩
 by_cases p1 : m.PrevTerm = 0
 ·by_cases p2 : m.Index = 0
  rotate_left
  ·simp [GMessage.cells,zab,eq_true g0,g1,g2,g3,g4,g5,g6,g7,g8,g9,g10,g11,g12,g13,eq_true hk,eq_true p1,p2]
   have hP : pb = false:=by rw [hpb]; simp [zaI,goodM,eq_true g0,g1,g2,g3,g4,g5,g6,g7,g8,g9,g10,g11,g12,g13,eq_true hk,eq_true p1,p2]
   (repeat refine dr ?_)
   rw [hr,hP]
   refine retE [] [] [] [] [.inl 0,.inl 1,.inl 2,.inl 3,.inl 4] rfl ?_
   simp
  by_cases pl : 4096 - m.Index < (m.Entries.length : Int)
  ·have pl2 : ¬ (m.Entries.length : Int) ≤ 4096 - m.Index:=by omega
   simp [GMessage.cells,zab,eq_true g0,g1,g2,g3,g4,g5,g6,g7,g8,g9,g10,g11,g12,g13,eq_true hk,eq_true p1,eq_true p2,w1,pl]
   have hP : pb = false:=by rw [hpb]; simp [zaI,goodM,eq_true g0,g1,g2,g3,g4,g5,g6,g7,g8,g9,g10,g11,g12,g13,eq_true hk,eq_true p1,eq_true p2,pl2]
   (repeat refine dr ?_)
   rw [hr,hP]
   refine retE [] [] [] [] [.inl 0,.inl 1,.inl 2,.inl 3,.inl 4] rfl ?_
   simp
  have pl2 : (m.Entries.length : Int) ≤ 4096 - m.Index:=by omega
  have hP : pb = tl:=by rw [hpb]; simp [zaI,goodM,eq_true g0,g1,g2,g3,g4,g5,g6,g7,g8,g9,g10,g11,g12,g13,eq_true hk,eq_true p1,eq_true p2,pl2,← htl]
  rw [hP] at hr
  simp [GMessage.cells,zab,eq_true g0,g1,g2,g3,g4,g5,g6,g7,g8,g9,g10,g11,g12,g13,eq_true hk,eq_true p1,eq_true p2,w1,pl]
  (repeat refine dr ?_)
  refine zal (prSt J id n role commit votes next mt m) (fun i=>i.1 ≤ m.Entries.length ∧ entsB i.2 m.Term (m.Entries.drop i.1) = tl) (fun i=>m.Entries.length - i.1) (0,max 1 m.PrevTerm) ?_ ⟨Nat.zero_le _,htl.symm⟩ ?_
  ·refine (zbO (.inr 3) 1).trans (zak [.inl 0,.inl 1,.inl 2,.inl 3,.inl 4,.inr 3] ?_ ?_ ?_ ?_) <;> simp [flAt,mgO,GMessage.cells,zuP]
  ·rintro ⟨i,last⟩ ⟨hi,g⟩
   simp only at hi g
   by_cases hik : i < m.Entries.length
   ·obtain ⟨x,hx,hx',hxm⟩:=zav hik
    have w4 : IntKind.i64.wrap ((i : Int) + 1) = (i : Int) + 1:=w64
    have hdrop : m.Entries.drop i = x :: m.Entries.drop (i + 1):=by rw [← hx']; exact (List.drop_eq_getElem_cons hik)
    rw [hdrop,entsB] at g
    cases hs : zbj x.Entry with
    | false =>
     rw [hs,Bool.false_and] at g
     simp [prSt,mgO,GMessage.cells,GLogged.cells,hik,hx',hs]
     (repeat refine dr ?_)
     rw [hr,← g]
     refine retE [] [] [] [] [.inl 0,.inl 1,.inl 2,.inl 3,.inl 4] rfl ?_
     simp
    | true =>
     by_cases e1 : x.Term < last
     ·rw [decide_eq_false (show ¬ last ≤ x.Term by omega),Bool.false_and,Bool.and_false] at g
      simp [prSt,mgO,GMessage.cells,GLogged.cells,hik,hx',hs,e1]
      (repeat refine dr ?_)
      rw [hr,← g]
      refine retE [] [] [] [] [.inl 0,.inl 1,.inl 2,.inl 3,.inl 4] rfl ?_
      simp
     by_cases e2 : m.Term < x.Term
     ·rw [decide_eq_false (show ¬ x.Term ≤ m.Term by omega),Bool.false_and,Bool.and_false,Bool.and_false] at g
      simp [prSt,mgO,GMessage.cells,GLogged.cells,hik,hx',hs,e1,e2]
      (repeat refine dr ?_)
      rw [hr,← g]
      refine retE [] [] [] [] [.inl 0,.inl 1,.inl 2,.inl 3,.inl 4] rfl ?_
      simp
     ·rw [hs,decide_eq_true (show last ≤ x.Term by omega),decide_eq_true (show x.Term ≤ m.Term by omega),Bool.true_and,Bool.true_and,Bool.true_and] at g
      simp [prSt,mgO,GMessage.cells,GLogged.cells,hik,hx',hs,e1,e2]
      (repeat refine dr ?_)
      refine Again.mk (i + 1,x.Term) ⟨hik,g⟩ (by show m.Entries.length - (i + 1) < m.Entries.length - i; omega) ?_
      refine zak [.inl 0,.inl 1,.inl 2,.inl 3,.inl 4,.inl 5] ?_ ?_ ?_ ?_ <;> simp [w4,mgO,GMessage.cells]
   ·have e : i = m.Entries.length:=by omega
    rw [e,List.drop_length,entsB] at g
    simp [prSt,mgO,GMessage.cells,hik]
    rw [hr,← g]
    refine retE [] [] [] [] [.inl 0,.inl 1,.inl 2,.inl 3,.inl 4] rfl ?_
    simp
 ·by_cases p2 : m.Index = 0
  ·simp [GMessage.cells,zab,eq_true g0,g1,g2,g3,g4,g5,g6,g7,g8,g9,g10,g11,g12,g13,eq_true hk,p1,eq_true p2]
   have hP : pb = false:=by rw [hpb]; simp [zaI,goodM,eq_true g0,g1,g2,g3,g4,g5,g6,g7,g8,g9,g10,g11,g12,g13,eq_true hk,p1,eq_true p2]
   (repeat refine dr ?_)
   rw [hr,hP]
   refine retE [] [] [] [] [.inl 0,.inl 1,.inl 2,.inl 3,.inl 4] rfl ?_
   simp
  by_cases pl : 4096 - m.Index < (m.Entries.length : Int)
  ·have pl2 : ¬ (m.Entries.length : Int) ≤ 4096 - m.Index:=by omega
   simp [GMessage.cells,zab,eq_true g0,g1,g2,g3,g4,g5,g6,g7,g8,g9,g10,g11,g12,g13,eq_true hk,p1,p2,w1,pl]
   have hP : pb = false:=by rw [hpb]; simp [zaI,goodM,eq_true g0,g1,g2,g3,g4,g5,g6,g7,g8,g9,g10,g11,g12,g13,eq_true hk,p1,p2,pl2]
   (repeat refine dr ?_)
   rw [hr,hP]
   refine retE [] [] [] [] [.inl 0,.inl 1,.inl 2,.inl 3,.inl 4] rfl ?_
   simp
  have pl2 : (m.Entries.length : Int) ≤ 4096 - m.Index:=by omega
  have hP : pb = tl:=by rw [hpb]; simp [zaI,goodM,eq_true g0,g1,g2,g3,g4,g5,g6,g7,g8,g9,g10,g11,g12,g13,eq_true hk,p1,p2,pl2,← htl]
  rw [hP] at hr
  simp [GMessage.cells,zab,eq_true g0,g1,g2,g3,g4,g5,g6,g7,g8,g9,g10,g11,g12,g13,eq_true hk,p1,p2,w1,pl]
  (repeat refine dr ?_)
  refine zal (prSt J id n role commit votes next mt m) (fun i=>i.1 ≤ m.Entries.length ∧ entsB i.2 m.Term (m.Entries.drop i.1) = tl) (fun i=>m.Entries.length - i.1) (0,max 1 m.PrevTerm) ?_ ⟨Nat.zero_le _,htl.symm⟩ ?_
  ·refine (zbO (.inr 3) 1).trans (zak [.inl 0,.inl 1,.inl 2,.inl 3,.inl 4,.inr 3] ?_ ?_ ?_ ?_) <;> simp [flAt,mgO,GMessage.cells,zuP]
  ·rintro ⟨i,last⟩ ⟨hi,g⟩
   simp only at hi g
   by_cases hik : i < m.Entries.length
   ·obtain ⟨x,hx,hx',hxm⟩:=zav hik
    have w4 : IntKind.i64.wrap ((i : Int) + 1) = (i : Int) + 1:=w64
    have hdrop : m.Entries.drop i = x :: m.Entries.drop (i + 1):=by rw [← hx']; exact (List.drop_eq_getElem_cons hik)
    rw [hdrop,entsB] at g
    cases hs : zbj x.Entry with
    | false =>
     rw [hs,Bool.false_and] at g
     simp [prSt,mgO,GMessage.cells,GLogged.cells,hik,hx',hs]
     (repeat refine dr ?_)
     rw [hr,← g]
     refine retE [] [] [] [] [.inl 0,.inl 1,.inl 2,.inl 3,.inl 4] rfl ?_
     simp
    | true =>
     by_cases e1 : x.Term < last
     ·rw [decide_eq_false (show ¬ last ≤ x.Term by omega),Bool.false_and,Bool.and_false] at g
      simp [prSt,mgO,GMessage.cells,GLogged.cells,hik,hx',hs,e1]
      (repeat refine dr ?_)
      rw [hr,← g]
      refine retE [] [] [] [] [.inl 0,.inl 1,.inl 2,.inl 3,.inl 4] rfl ?_
      simp
     by_cases e2 : m.Term < x.Term
     ·rw [decide_eq_false (show ¬ x.Term ≤ m.Term by omega),Bool.false_and,Bool.and_false,Bool.and_false] at g
      simp [prSt,mgO,GMessage.cells,GLogged.cells,hik,hx',hs,e1,e2]
      (repeat refine dr ?_)
      rw [hr,← g]
      refine retE [] [] [] [] [.inl 0,.inl 1,.inl 2,.inl 3,.inl 4] rfl ?_
      simp
     ·rw [hs,decide_eq_true (show last ≤ x.Term by omega),decide_eq_true (show x.Term ≤ m.Term by omega),Bool.true_and,Bool.true_and,Bool.true_and] at g
      simp [prSt,mgO,GMessage.cells,GLogged.cells,hik,hx',hs,e1,e2]
      (repeat refine dr ?_)
      refine Again.mk (i + 1,x.Term) ⟨hik,g⟩ (by show m.Entries.length - (i + 1) < m.Entries.length - i; omega) ?_
      refine zak [.inl 0,.inl 1,.inl 2,.inl 3,.inl 4,.inl 5] ?_ ?_ ?_ ?_ <;> simp [w4,mgO,GMessage.cells]
   ·have e : i = m.Entries.length:=by omega
    rw [e,List.drop_length,entsB] at g
    simp [prSt,mgO,GMessage.cells,hik]
    rw [hr,← g]
    refine retE [] [] [] [] [.inl 0,.inl 1,.inl 2,.inl 3,.inl 4] rfl ?_
    simp
end Go.Proofs.YtcpdgbncekdicaaGreat

namespace Go.Proofs.YtcpdgbncekdicaaGreat
open Go.Lift
set_option maxRecDepth 100000
theorem minE (l i : Int) : (if i < l then i else l) = min l i:=by omega
theorem zeV (c l i : Int) : (if c < if i < l then i else l then if i < l then i else l else c) = max c (min l i):=by omega
theorem zlS (J : JN) (n : Int) : (cutJ J n).log.length ≤ J.log.length:=by
 unfold cutJ
 split
 ·show (cuJ J n).log.length ≤ _
  unfold cuJ
  split
  ·simp only [List.length_take]; omega
  ·omega
 ·omega
theorem zcY (J : JN) (t : Int) (e : GEntry) : (zaw J t e).log.length ≤ J.log.length + 1:=by
 rw [za5]
 split
 ·simp
 ·omega
theorem zl7 {log : List GLogged} {i : Nat} {x : GLogged} {es : List GLogged} (h : ¬ (i < log.length ∧ (logAt log i).Term = x.Term)) : fitGo log i (x :: es) = 0:=by rw [fitGo,if_neg h]
theorem zyp {log : List GLogged} {i : Nat} {x : GLogged} {es : List GLogged} (h : i < log.length ∧ (logAt log i).Term = x.Term) : fitGo log i (x :: es) = fitGo log (i + 1) es + 1:=by rw [fitGo,if_pos h]
@[simp] theorem all_lt6 {p : Nat → Prop} : (∀ n,n < 6 → p n) ↔ p 0 ∧ p 1 ∧ p 2 ∧ p 3 ∧ p 4 ∧ p 5:=by
 constructor
 ·intro h; exact ⟨h 0 (by omega),h 1 (by omega),h 2 (by omega),h 3 (by omega),h 4 (by omega),h 5 (by omega)⟩
 ·rintro ⟨h0,h1,h2,h3,h4,h5⟩ n hn
  have : n = 0 ∨ n = 1 ∨ n = 2 ∨ n = 3 ∨ n = 4 ∨ n = 5:=by omega
  rcases this with rfl | rfl | rfl | rfl | rfl | rfl <;> assumption
noncomputable def CQAA:=mkC [(122,zfA),(94,zbw),(83,zdo),(123,ziz),(84,zdL)]
theorem zyF : zai Tryz.prog CQAA:=zat (all_cons zmB (all_cons zcP (all_cons zgP (all_cons zpq (all_cons zgh all_nil)))))
@[simp] theorem CQAA_1 : CQAA 122 = zfA:=rfl
@[simp] theorem CQAA_2 : CQAA 94 = zbw:=rfl
@[simp] theorem CQAA_3 : CQAA 83 = zdo:=rfl
@[simp] theorem CQAA_4 : CQAA 123 = ziz:=rfl
@[simp] theorem CQAA_5 : CQAA 84 = zdL:=rfl
noncomputable def ziL:=fam (fun i : JN × Int × Int × Int × Int × (List Bool) × (List Int) × (List Int) × Nat × Nat × Nat × GMessage=>[V.ptr 0 0 0,zam i.2.2.2.2.2.2.2.2.2.2.2]) (fun i=>[rr i.2.1 i.2.2.1 i.2.2.2.1 i.2.2.2.2.1 (.own 2 0 i.2.2.2.2.2.2.2.2.1) (.own 3 0 i.2.2.2.2.2.2.2.2.2.1) (.own 4 0 i.2.2.2.2.2.2.2.2.2.2.1),rjO i.1,boO i.2.2.2.2.2.1,inO i.2.2.2.2.2.2.1,inO i.2.2.2.2.2.2.2.1]) (fun i=>(i.2.2.2.2.2.2.2.2.1 = i.2.2.2.2.2.1.length) ∧ (i.2.2.2.2.2.2.2.2.2.1 = i.2.2.2.2.2.2.1.length) ∧ (i.2.2.2.2.2.2.2.2.2.2.1 = i.2.2.2.2.2.2.2.1.length) ∧ (0 ≤ i.2.2.2.2.2.2.2.2.2.2.2.Index) ∧ (i.2.2.2.2.2.2.2.2.2.2.2.Index ≤ 4096) ∧ (i.2.2.2.2.2.2.2.2.2.2.2.Entries.length ≤ 4096) ∧ (∀ x ∈ i.2.2.2.2.2.2.2.2.2.2.2.Entries,GLogged.ok x) ∧ (i.1.b.length ≤ 500000000) ∧ (i.1.log.length ≤ 500000000)) (fun i=>⟨.sl 2 9 (GMessage.row (takeM (⟨i.1,i.2.1,i.2.2.1,i.2.2.2.1,i.2.2.2.2.1,i.2.2.2.2.2.1,i.2.2.2.2.2.2.1,i.2.2.2.2.2.2.2.1⟩ : RN) i.2.2.2.2.2.2.2.2.2.2.2)),[rr i.2.1 i.2.2.1 (takeR (⟨i.1,i.2.1,i.2.2.1,i.2.2.2.1,i.2.2.2.2.1,i.2.2.2.2.2.1,i.2.2.2.2.2.2.1,i.2.2.2.2.2.2.2.1⟩ : RN) i.2.2.2.2.2.2.2.2.2.2.2).role (takeR (⟨i.1,i.2.1,i.2.2.1,i.2.2.2.1,i.2.2.2.2.1,i.2.2.2.2.2.1,i.2.2.2.2.2.2.1,i.2.2.2.2.2.2.2.1⟩ : RN) i.2.2.2.2.2.2.2.2.2.2.2).commit (.own 2 0 i.2.2.2.2.2.2.2.2.1) (.own 3 0 i.2.2.2.2.2.2.2.2.2.1) (.own 4 0 i.2.2.2.2.2.2.2.2.2.2.1),rjO (takeR (⟨i.1,i.2.1,i.2.2.1,i.2.2.2.1,i.2.2.2.2.1,i.2.2.2.2.2.1,i.2.2.2.2.2.2.1,i.2.2.2.2.2.2.2.1⟩ : RN) i.2.2.2.2.2.2.2.2.2.2.2).J,boO i.2.2.2.2.2.1,inO i.2.2.2.2.2.2.1,inO i.2.2.2.2.2.2.2.1]⟩)
@[simp] theorem zkf {J : JN} {id n role commit : Int} {votes : List Bool} {next mt : List Int} {a b c : Nat} {m : GMessage} (h1 : a = votes.length) (h2 : b = next.length) (h3 : c = mt.length) (h4 : 0 ≤ m.Index) (h5 : m.Index ≤ 4096) (h6 : m.Entries.length ≤ 4096) (h7 : ∀ x ∈ m.Entries,GLogged.ok x) (h8 : J.b.length ≤ 500000000) (h9 : J.log.length ≤ 500000000) : ziL ([V.ptr 0 0 0,zam m]) ([rr id n role commit (.own 2 0 a) (.own 3 0 b) (.own 4 0 c),rjO J,boO votes,inO next,inO mt]) = some (⟨.sl 2 9 (GMessage.row (takeM (⟨J,id,n,role,commit,votes,next,mt⟩ : RN) m)),[rr id n (takeR (⟨J,id,n,role,commit,votes,next,mt⟩ : RN) m).role (takeR (⟨J,id,n,role,commit,votes,next,mt⟩ : RN) m).commit (.own 2 0 a) (.own 3 0 b) (.own 4 0 c),rjO (takeR (⟨J,id,n,role,commit,votes,next,mt⟩ : RN) m).J,boO votes,inO next,inO mt]⟩) :=
 zag (by rintro ⟨a0,a1,a2,a3,a4,a5,a6,a7,a8,a9,a10,a11⟩ ⟨b0,b1,b2,b3,b4,b5,b6,b7,b8,b9,b10,b11⟩ h h' <;> simp at h h' <;> simp_all) (J,id,n,role,commit,votes,next,mt,a,b,c,m) ⟨h1,h2,h3,h4,h5,h6,h7,h8,h9⟩
theorem zcX : ∀ (l : List GLogged) (J : JN),(appAll J l).term = J.term
 | [],_=>rfl
 | e :: es,J=>by rw [appAll,zcX es,zbz]
def tkA (J : JN) (id n commit : Int) (votes : List Bool) (next mt : List Int) (m : GMessage) (k : Nat) : St:=mkSt [(0,.ptr 0 0 0),(3,.ptr 5 0 0),(5,.int .i64 k)] [(0,rr id n 1 commit (.own 2 0 votes.length) (.own 3 0 next.length) (.own 4 0 mt.length)),(1,rjO J),(2,boO votes),(3,inO next),(4,inO mt),(5,mgO m)] 6
def tkB (J : JN) (id n commit : Int) (votes : List Bool) (next mt : List Int) (m : GMessage) (i : Nat × JN) : St:=mkSt [(0,.ptr 0 0 0),(3,.ptr 5 0 0),(5,.int .i64 i.1)] [(0,rr id n 1 commit (.own 2 0 votes.length) (.own 3 0 next.length) (.own 4 0 mt.length)),(1,rjO i.2),(2,boO votes),(3,inO next),(4,inO mt),(5,mgO m)] 6
set_option maxHeartbeats 40000000 in
theorem zpT : Lift.Spec Tryz.prog 92 ziL:=by
 refine zad [] (C:=CQAA) zac zyF follows Tryz.func92 (by kernel_rfl) rfl (by kernel_rfl) rfl ?_
 rintro ⟨J,id,n,role,commit,votes,next,mt,a,b,c,m⟩ ⟨ha,hb,hc,h1,h2,h3,h4,h5,h6⟩
 try simp only at ha hb hc h1 h2 h3 h4 h5 h6
 refine ⟨by simp,?_⟩
 intro r hr
 subst ha hb hc
 obtain ⟨Q,hQ⟩ : ∃ Q : RN,Q = ⟨J,id,n,role,commit,votes,next,mt⟩:=⟨_,rfl⟩
 simp only [← hQ] at hr
 have q1 : Q.J = J:=by rw [hQ]
 have q2 : Q.role = role:=by rw [hQ]
 have q3 : Q.commit = commit:=by rw [hQ]
 have qa : ∀ (x : Int) (b : Bool) (rl : Int),ansM (⟨J,id,n,rl,commit,votes,next,mt⟩ : RN) m x b = ansM Q m x b:=fun x b rl=>by rw [hQ]; rfl
 by_cases g1 : m.Term < J.term
 ·have hS : takeR Q m = Q:=by simp only [takeR,q1,if_pos g1]
  have hM : takeM Q m = [ansM Q m 0 false]:=by simp only [takeM,q1,if_pos g1]
  rw [hS,hM] at hr
  simp only [hQ] at hr
  simp [GMessage.cells,GLogged.cells,GEntry.cells,zab,g1]
  (repeat refine dr ?_)
  rw [hr]
  refine retE [] [] [] [] [.inl 0,.inl 1,.inl 2,.inl 3,.inl 4] rfl ?_
  simp []
 by_cases g2 : role = 3
 ·have hS : takeR Q m = Q:=by simp only [takeR,q1,q2,if_neg g1,if_pos g2]
  have hM : takeM Q m = []:=by simp only [takeM,q1,q2,if_neg g1,if_pos g2]
  rw [hS,hM] at hr
  simp only [hQ] at hr
  simp [GMessage.cells,GLogged.cells,GEntry.cells,zab,g1,eq_true g2]
  (repeat refine dr ?_)
  rw [hr]
  refine Ret.weak (retE [] [] [] [] [.inl 0,.inl 1,.inl 2,.inl 3,.inl 4] rfl ?_) (zax _ 4 9)
  simp []
 have w1 : IntKind.i64.wrap (m.Index - 1) = m.Index - 1:=w64
 by_cases a1 : (J.log.length : Int) < m.Index
 ·have hH : holeB Q m = true:=by simp [holeB,q1,a1]
  have hS : takeR Q m = { Q with role:=1 }:=by simp only [takeR,q1,q2,if_neg g1,if_neg g2,if_pos hH]
  have hM : takeM Q m = [ansM Q m (min (J.log.length : Int) (m.Index - 1)) false]:=by simp only [takeM,q1,q2,if_neg g1,if_neg g2,if_pos hH]
  rw [hS,hM,← qa _ _ 1] at hr
  simp only [hQ] at hr
  simp [GMessage.cells,GLogged.cells,GEntry.cells,zab,g1,g2,a1,w1,minE]
  (repeat refine dr ?_)
  rw [hr]
  refine retE [] [] [] [] [.inl 0,.inl 1,.inl 2,.inl 3,.inl 4] rfl ?_
  simp []
 by_cases a2 : 0 < m.Index
 ·by_cases a3 : (logAt J.log (m.Index - 1)).Term = m.PrevTerm
  ·have hH : holeB Q m = false:=by simp [holeB,q1,a1,a2,eq_true a3]; try omega
   simp [GMessage.cells,GLogged.cells,GEntry.cells,zab,g1,g2,a1,a2,eq_true a3,w1]
   (repeat refine dr ?_)
   refine zal (tkA J id n commit votes next mt m) (fun k=>k ≤ m.Entries.length ∧ fitGo J.log (m.Index.toNat + k) (m.Entries.drop k) + k = fitN Q m) (fun k=>m.Entries.length - k) 0 ?_ ⟨Nat.zero_le _,by simp only [fitN,q1]; rfl⟩ ?_
   ·refine (zbO (.inr 3) 1).trans (zak [.inl 0,.inl 1,.inl 2,.inl 3,.inl 4,.inr 3] ?_ ?_ ?_ ?_) <;> simp [flAt,mgO,GMessage.cells]
   ·rintro k ⟨hk,g⟩
    have wk : IntKind.i64.wrap (m.Index + (k : Int)) = m.Index + (k : Int):=w64
    have ek : ((m.Index.toNat + k : Nat) : Int) = m.Index + (k : Int):=by omega
    by_cases hik : k < m.Entries.length
    ·obtain ⟨x,hx,hx',hxm⟩:=zav hik
     have w4 : IntKind.i64.wrap ((k : Int) + 1) = (k : Int) + 1:=w64
     have hdrop : m.Entries.drop k = x :: m.Entries.drop (k + 1):=by rw [← hx']; exact (List.drop_eq_getElem_cons hik)
     by_cases e1 : m.Index + (k : Int) < (J.log.length : Int)
     ·by_cases e2 : (logAt J.log (m.Index + (k : Int))).Term = x.Term
      ·rw [hdrop,zyp ⟨by omega,by rw [ek]; exact e2⟩] at g
       simp [tkA,tkB,mgO,GMessage.cells,GLogged.cells,GEntry.cells,zab,hik,hx',wk,e1,eq_true e2]
       (repeat refine dr ?_)
       refine Again.mk (k + 1) ⟨hik,by rw [← g,show m.Index.toNat + (k + 1) = m.Index.toNat + k + 1 from rfl]; omega⟩ (by show m.Entries.length - (k + 1) < m.Entries.length - k; omega) ?_
       refine zak [.inl 0,.inl 1,.inl 2,.inl 3,.inl 4,.inl 5] ?_ ?_ ?_ ?_ <;> simp [w4,mgO,GMessage.cells]
      ·have hno : ¬ (m.Index.toNat + k < J.log.length ∧ (logAt J.log ((m.Index.toNat + k : Nat) : Int)).Term = x.Term):=by rw [ek]; exact fun h=>e2 h.2
       have hfit : fitN Q m = k:=by rw [← g,hdrop,zl7 hno,Nat.zero_add]
       clear hno
       by_cases gc : m.Index + (k : Int) < commit
       ·have hS : takeR Q m = { Q with role:=1 }:=by simp only [takeR,q1,q2,q3,if_neg g1,if_neg g2,hH,Bool.false_eq_true,if_false,hfit,if_pos hik,if_pos gc]
        have hM : takeM Q m = []:=by simp only [takeM,q1,q2,q3,if_neg g1,if_neg g2,hH,Bool.false_eq_true,if_false,hfit,if_pos (show k < m.Entries.length ∧ m.Index + (k : Int) < commit from ⟨hik,gc⟩)]
        rw [hS,hM] at hr
        simp only [hQ] at hr
        simp [tkA,tkB,mgO,GMessage.cells,GLogged.cells,GEntry.cells,zab,hik,hx',wk,e1,e2,gc]
        (repeat refine dr ?_)
        rw [hr]
        refine Ret.weak (retE [] [] [] [] [.inl 0,.inl 1,.inl 2,.inl 3,.inl 4] rfl ?_) (zax _ 4 9)
        simp []
       obtain ⟨K,hK⟩ : ∃ K,K = cutJ J (m.Index + (k : Int)):=⟨_,rfl⟩
       have hfill : fillJ J (m.Index + (k : Int)) (m.Entries.drop k) = syncJ (appAll K (m.Entries.drop k)):=by rw [fillJ,if_pos e1,← hK]
       have hKb : K.b.length ≤ J.b.length + 65600:=by rw [hK]; exact zji _ _
       have hKl : K.log.length ≤ J.log.length:=by rw [hK]; exact zlS _ _
       have hKt : K.term = J.term:=by rw [hK]; exact zcs _ _
       obtain ⟨en,hen⟩ : ∃ en : Int,en = m.Index + (m.Entries.length : Int):=⟨_,rfl⟩
       have hS : takeR Q m = ⟨syncJ (appAll K (m.Entries.drop k)),id,n,1,max commit (min m.Commit en),votes,next,mt⟩:=by
        simp only [takeR,q1,q2,q3,if_neg g1,if_neg g2,hH,Bool.false_eq_true,if_false,hfit,if_pos hik,if_neg gc,hfill,← hen]; rw [hQ]
       have hM : takeM Q m = [ansM ⟨syncJ (appAll K (m.Entries.drop k)),id,n,1,max commit (min m.Commit en),votes,next,mt⟩ m en true]:=by
        simp only [takeM,q1,q2,q3,if_neg g1,if_neg g2,hH,Bool.false_eq_true,if_false,hfit,if_neg (show ¬ (k < m.Entries.length ∧ m.Index + (k : Int) < commit) from fun h=>gc h.2),← hen]
        simp [ansM,hQ,zcX,hKt]
       rw [hS,hM] at hr
       simp only at hr
       clear g hfit hfill hS hM
       have wn : IntKind.i64.wrap en = en:=w64
       have ik : In64 (m.Index + (k : Int)):=by unfold In64; omega
       have hb0 : J.b.length ≤ 1000000000:=by omega
       have hl0 : J.log.length ≤ 1000000000:=by omega
       simp [tkA,tkB,mgO,GMessage.cells,GLogged.cells,GEntry.cells,zab,hik,hx',wk,e1,e2,gc,ik,hb0,hl0,← hK]
       (repeat refine dr ?_)
       refine zal (tkB J id n commit votes next mt m) (fun i=>k ≤ i.1 ∧ i.1 ≤ m.Entries.length ∧ appAll i.2 (m.Entries.drop i.1) = appAll K (m.Entries.drop k) ∧ i.2.b.length ≤ J.b.length + 65600 * (i.1 + 1) ∧ i.2.log.length ≤ J.log.length + i.1) (fun i=>m.Entries.length - i.1) (k,K) ?_ ⟨Nat.le_refl _,by omega,by simp only,tk_0 k hKb,by simp only; omega⟩ ?_
       ·refine zak [.inl 0,.inl 1,.inl 2,.inl 3,.inl 4,.inl 5] ?_ ?_ ?_ ?_ <;> simp [mgO,GMessage.cells,hK]
       ·rintro ⟨j,P⟩ ⟨u0,u1,u2,u3,u4⟩
        simp only at u0 u1 u2 u3 u4
        by_cases hjk : j < m.Entries.length
        ·obtain ⟨y,hy,hy',hym⟩:=zav hjk
         obtain ⟨y1,y2⟩:=h4 y hym
         have w4 : IntKind.i64.wrap ((j : Int) + 1) = (j : Int) + 1:=w64
         have hdj : m.Entries.drop j = y :: m.Entries.drop (j + 1):=by rw [← hy']; exact (List.drop_eq_getElem_cons hjk)
         rw [hdj,appAll] at u2
         have hPb : P.b.length ≤ 1000000000:=tk_b h5 h3 u1 u3
         have hPl : P.log.length ≤ 1000000000:=by omega
         have b1:=zb3 P y.Term y.Entry
         have b2:=zcY P y.Term y.Entry
         obtain ⟨P2,hP2⟩ : ∃ P2,P2 = zaw P y.Term y.Entry:=⟨_,rfl⟩
         rw [← hP2] at b1 b2 u2
         simp [tkA,tkB,mgO,GMessage.cells,GLogged.cells,GEntry.cells,zab,hjk,hy',hPb,hPl,y1,y2,← hP2]
         (repeat refine dr ?_)
         refine Again.mk (j + 1,P2) ⟨by simp only; omega,hjk,u2,tk_1 b1 u3,by simp only; omega⟩ (by simp only; omega) ?_
         refine zak [.inl 0,.inl 1,.inl 2,.inl 3,.inl 4,.inl 5] ?_ ?_ ?_ ?_ <;> simp [w4,mgO,GMessage.cells]
        ·have ej : j = m.Entries.length:=by omega
         rw [ej,List.drop_length,appAll] at u2
         rw [← u2] at hr
         have hPs : P.b.length ≤ 4611686018427387904:=Nat.le_trans (tk_b h5 h3 u1 u3) (by decide)
         simp [tkA,tkB,mgO,GMessage.cells,GLogged.cells,GEntry.cells,zab,hjk,hPs,← hen,wn,zeV]
         (repeat refine dr ?_)
         rw [hr]
         refine retE [] [] [] [] [.inl 0,.inl 1,.inl 2,.inl 3,.inl 4] rfl ?_
         simp []
     ·have hno : ¬ (m.Index.toNat + k < J.log.length ∧ (logAt J.log ((m.Index.toNat + k : Nat) : Int)).Term = x.Term):=fun h=>e1 (by omega)
      have hfit : fitN Q m = k:=by rw [← g,hdrop,zl7 hno,Nat.zero_add]
      clear hno
      by_cases gc : m.Index + (k : Int) < commit
      ·have hS : takeR Q m = { Q with role:=1 }:=by simp only [takeR,q1,q2,q3,if_neg g1,if_neg g2,hH,Bool.false_eq_true,if_false,hfit,if_pos hik,if_pos gc]
       have hM : takeM Q m = []:=by simp only [takeM,q1,q2,q3,if_neg g1,if_neg g2,hH,Bool.false_eq_true,if_false,hfit,if_pos (show k < m.Entries.length ∧ m.Index + (k : Int) < commit from ⟨hik,gc⟩)]
       rw [hS,hM] at hr
       simp only [hQ] at hr
       simp [tkA,tkB,mgO,GMessage.cells,GLogged.cells,GEntry.cells,zab,hik,hx',wk,e1,gc]
       (repeat refine dr ?_)
       rw [hr]
       refine Ret.weak (retE [] [] [] [] [.inl 0,.inl 1,.inl 2,.inl 3,.inl 4] rfl ?_) (zax _ 4 9)
       simp []
      obtain ⟨K,hK⟩ : ∃ K,K = J:=⟨_,rfl⟩
      have hfill : fillJ J (m.Index + (k : Int)) (m.Entries.drop k) = syncJ (appAll K (m.Entries.drop k)):=by rw [fillJ,if_neg e1,← hK]
      have hKb : K.b.length ≤ J.b.length + 65600:=by rw [hK]; omega
      have hKl : K.log.length ≤ J.log.length:=by rw [hK]; omega
      have hKt : K.term = J.term:=by rw [hK]
      obtain ⟨en,hen⟩ : ∃ en : Int,en = m.Index + (m.Entries.length : Int):=⟨_,rfl⟩
      have hS : takeR Q m = ⟨syncJ (appAll K (m.Entries.drop k)),id,n,1,max commit (min m.Commit en),votes,next,mt⟩:=by
       simp only [takeR,q1,q2,q3,if_neg g1,if_neg g2,hH,Bool.false_eq_true,if_false,hfit,if_pos hik,if_neg gc,hfill,← hen]; rw [hQ]
      have hM : takeM Q m = [ansM ⟨syncJ (appAll K (m.Entries.drop k)),id,n,1,max commit (min m.Commit en),votes,next,mt⟩ m en true]:=by
       simp only [takeM,q1,q2,q3,if_neg g1,if_neg g2,hH,Bool.false_eq_true,if_false,hfit,if_neg (show ¬ (k < m.Entries.length ∧ m.Index + (k : Int) < commit) from fun h=>gc h.2),← hen]
       simp [ansM,hQ,zcX,hKt]
      rw [hS,hM] at hr
      simp only at hr
      clear g hfit hfill hS hM
      have wn : IntKind.i64.wrap en = en:=w64
      have ik : In64 (m.Index + (k : Int)):=by unfold In64; omega
      have hb0 : J.b.length ≤ 1000000000:=by omega
      have hl0 : J.log.length ≤ 1000000000:=by omega
      simp [tkA,tkB,mgO,GMessage.cells,GLogged.cells,GEntry.cells,zab,hik,hx',wk,e1,gc,ik,hb0,hl0]
      (repeat refine dr ?_)
      refine zal (tkB J id n commit votes next mt m) (fun i=>k ≤ i.1 ∧ i.1 ≤ m.Entries.length ∧ appAll i.2 (m.Entries.drop i.1) = appAll K (m.Entries.drop k) ∧ i.2.b.length ≤ J.b.length + 65600 * (i.1 + 1) ∧ i.2.log.length ≤ J.log.length + i.1) (fun i=>m.Entries.length - i.1) (k,K) ?_ ⟨Nat.le_refl _,by omega,by simp only,tk_0 k hKb,by simp only; omega⟩ ?_
      ·refine zak [.inl 0,.inl 1,.inl 2,.inl 3,.inl 4,.inl 5] ?_ ?_ ?_ ?_ <;> simp [mgO,GMessage.cells,hK]
      ·rintro ⟨j,P⟩ ⟨u0,u1,u2,u3,u4⟩
       simp only at u0 u1 u2 u3 u4
       by_cases hjk : j < m.Entries.length
       ·obtain ⟨y,hy,hy',hym⟩:=zav hjk
        obtain ⟨y1,y2⟩:=h4 y hym
        have w4 : IntKind.i64.wrap ((j : Int) + 1) = (j : Int) + 1:=w64
        have hdj : m.Entries.drop j = y :: m.Entries.drop (j + 1):=by rw [← hy']; exact (List.drop_eq_getElem_cons hjk)
        rw [hdj,appAll] at u2
        have hPb : P.b.length ≤ 1000000000:=tk_b h5 h3 u1 u3
        have hPl : P.log.length ≤ 1000000000:=by omega
        have b1:=zb3 P y.Term y.Entry
        have b2:=zcY P y.Term y.Entry
        obtain ⟨P2,hP2⟩ : ∃ P2,P2 = zaw P y.Term y.Entry:=⟨_,rfl⟩
        rw [← hP2] at b1 b2 u2
        simp [tkA,tkB,mgO,GMessage.cells,GLogged.cells,GEntry.cells,zab,hjk,hy',hPb,hPl,y1,y2,← hP2]
        (repeat refine dr ?_)
        refine Again.mk (j + 1,P2) ⟨by simp only; omega,hjk,u2,tk_1 b1 u3,by simp only; omega⟩ (by simp only; omega) ?_
        refine zak [.inl 0,.inl 1,.inl 2,.inl 3,.inl 4,.inl 5] ?_ ?_ ?_ ?_ <;> simp [w4,mgO,GMessage.cells]
       ·have ej : j = m.Entries.length:=by omega
        rw [ej,List.drop_length,appAll] at u2
        rw [← u2] at hr
        have hPs : P.b.length ≤ 4611686018427387904:=Nat.le_trans (tk_b h5 h3 u1 u3) (by decide)
        simp [tkA,tkB,mgO,GMessage.cells,GLogged.cells,GEntry.cells,zab,hjk,hPs,← hen,wn,zeV]
        (repeat refine dr ?_)
        rw [hr]
        refine retE [] [] [] [] [.inl 0,.inl 1,.inl 2,.inl 3,.inl 4] rfl ?_
        simp []
    ·have ee : k = m.Entries.length:=by omega
     have hfit : fitN Q m = m.Entries.length:=by rw [← g,ee,List.drop_length]; simp [fitGo]
     obtain ⟨en,hen⟩ : ∃ en : Int,en = m.Index + (m.Entries.length : Int):=⟨_,rfl⟩
     have hS : takeR Q m = ⟨J,id,n,1,max commit (min m.Commit en),votes,next,mt⟩:=by
      simp only [takeR,q1,q2,q3,if_neg g1,if_neg g2,hH,Bool.false_eq_true,if_false,hfit,Nat.lt_irrefl,← hen]; rw [hQ]
     have hM : takeM Q m = [ansM ⟨J,id,n,1,max commit (min m.Commit en),votes,next,mt⟩ m en true]:=by
      simp only [takeM,q1,q2,q3,if_neg g1,if_neg g2,hH,Bool.false_eq_true,if_false,hfit,Nat.lt_irrefl,false_and,← hen]
      simp [ansM,hQ]
     rw [hS,hM] at hr
     simp only at hr
     have wn : IntKind.i64.wrap en = en:=w64
     simp [tkA,tkB,mgO,GMessage.cells,GLogged.cells,GEntry.cells,zab,hik,← hen,wn,zeV]
     (repeat refine dr ?_)
     rw [hr]
     refine retE [] [] [] [] [.inl 0,.inl 1,.inl 2,.inl 3,.inl 4] rfl ?_
     simp []
  ·have hH : holeB Q m = true:=by simp [holeB,q1,a1,a2,a3]
   have hS : takeR Q m = { Q with role:=1 }:=by simp only [takeR,q1,q2,if_neg g1,if_neg g2,if_pos hH]
   have hM : takeM Q m = [ansM Q m (min (J.log.length : Int) (m.Index - 1)) false]:=by simp only [takeM,q1,q2,if_neg g1,if_neg g2,if_pos hH]
   rw [hS,hM,← qa _ _ 1] at hr
   simp only [hQ] at hr
   simp [GMessage.cells,GLogged.cells,GEntry.cells,zab,g1,g2,a1,a2,a3,w1,minE]
   (repeat refine dr ?_)
   rw [hr]
   refine retE [] [] [] [] [.inl 0,.inl 1,.inl 2,.inl 3,.inl 4] rfl ?_
   simp []
 ·have hH : holeB Q m = false:=by simp [holeB,q1,a1,a2]; try omega
  simp [GMessage.cells,GLogged.cells,GEntry.cells,zab,g1,g2,a1,a2,w1]
  (repeat refine dr ?_)
  refine zal (tkA J id n commit votes next mt m) (fun k=>k ≤ m.Entries.length ∧ fitGo J.log (m.Index.toNat + k) (m.Entries.drop k) + k = fitN Q m) (fun k=>m.Entries.length - k) 0 ?_ ⟨Nat.zero_le _,by simp only [fitN,q1]; rfl⟩ ?_
  ·refine (zbO (.inr 3) 1).trans (zak [.inl 0,.inl 1,.inl 2,.inl 3,.inl 4,.inr 3] ?_ ?_ ?_ ?_) <;> simp [flAt,mgO,GMessage.cells]
  ·rintro k ⟨hk,g⟩
   have wk : IntKind.i64.wrap (m.Index + (k : Int)) = m.Index + (k : Int):=w64
   have ek : ((m.Index.toNat + k : Nat) : Int) = m.Index + (k : Int):=by omega
   by_cases hik : k < m.Entries.length
   ·obtain ⟨x,hx,hx',hxm⟩:=zav hik
    have w4 : IntKind.i64.wrap ((k : Int) + 1) = (k : Int) + 1:=w64
    have hdrop : m.Entries.drop k = x :: m.Entries.drop (k + 1):=by rw [← hx']; exact (List.drop_eq_getElem_cons hik)
    by_cases e1 : m.Index + (k : Int) < (J.log.length : Int)
    ·by_cases e2 : (logAt J.log (m.Index + (k : Int))).Term = x.Term
     ·rw [hdrop,zyp ⟨by omega,by rw [ek]; exact e2⟩] at g
      simp [tkA,tkB,mgO,GMessage.cells,GLogged.cells,GEntry.cells,zab,hik,hx',wk,e1,eq_true e2]
      (repeat refine dr ?_)
      refine Again.mk (k + 1) ⟨hik,by rw [← g,show m.Index.toNat + (k + 1) = m.Index.toNat + k + 1 from rfl]; omega⟩ (by show m.Entries.length - (k + 1) < m.Entries.length - k; omega) ?_
      refine zak [.inl 0,.inl 1,.inl 2,.inl 3,.inl 4,.inl 5] ?_ ?_ ?_ ?_ <;> simp [w4,mgO,GMessage.cells]
     ·have hno : ¬ (m.Index.toNat + k < J.log.length ∧ (logAt J.log ((m.Index.toNat + k : Nat) : Int)).Term = x.Term):=by rw [ek]; exact fun h=>e2 h.2
      have hfit : fitN Q m = k:=by rw [← g,hdrop,zl7 hno,Nat.zero_add]
      clear hno
      by_cases gc : m.Index + (k : Int) < commit
      ·have hS : takeR Q m = { Q with role:=1 }:=by simp only [takeR,q1,q2,q3,if_neg g1,if_neg g2,hH,Bool.false_eq_true,if_false,hfit,if_pos hik,if_pos gc]
       have hM : takeM Q m = []:=by simp only [takeM,q1,q2,q3,if_neg g1,if_neg g2,hH,Bool.false_eq_true,if_false,hfit,if_pos (show k < m.Entries.length ∧ m.Index + (k : Int) < commit from ⟨hik,gc⟩)]
       rw [hS,hM] at hr
       simp only [hQ] at hr
       simp [tkA,tkB,mgO,GMessage.cells,GLogged.cells,GEntry.cells,zab,hik,hx',wk,e1,e2,gc]
       (repeat refine dr ?_)
       rw [hr]
       refine Ret.weak (retE [] [] [] [] [.inl 0,.inl 1,.inl 2,.inl 3,.inl 4] rfl ?_) (zax _ 4 9)
       simp []
      obtain ⟨K,hK⟩ : ∃ K,K = cutJ J (m.Index + (k : Int)):=⟨_,rfl⟩
      have hfill : fillJ J (m.Index + (k : Int)) (m.Entries.drop k) = syncJ (appAll K (m.Entries.drop k)):=by rw [fillJ,if_pos e1,← hK]
      have hKb : K.b.length ≤ J.b.length + 65600:=by rw [hK]; exact zji _ _
      have hKl : K.log.length ≤ J.log.length:=by rw [hK]; exact zlS _ _
      have hKt : K.term = J.term:=by rw [hK]; exact zcs _ _
      obtain ⟨en,hen⟩ : ∃ en : Int,en = m.Index + (m.Entries.length : Int):=⟨_,rfl⟩
      have hS : takeR Q m = ⟨syncJ (appAll K (m.Entries.drop k)),id,n,1,max commit (min m.Commit en),votes,next,mt⟩:=by
       simp only [takeR,q1,q2,q3,if_neg g1,if_neg g2,hH,Bool.false_eq_true,if_false,hfit,if_pos hik,if_neg gc,hfill,← hen]; rw [hQ]
      have hM : takeM Q m = [ansM ⟨syncJ (appAll K (m.Entries.drop k)),id,n,1,max commit (min m.Commit en),votes,next,mt⟩ m en true]:=by
       simp only [takeM,q1,q2,q3,if_neg g1,if_neg g2,hH,Bool.false_eq_true,if_false,hfit,if_neg (show ¬ (k < m.Entries.length ∧ m.Index + (k : Int) < commit) from fun h=>gc h.2),← hen]
       simp [ansM,hQ,zcX,hKt]
      rw [hS,hM] at hr
      simp only at hr
      clear g hfit hfill hS hM
      have wn : IntKind.i64.wrap en = en:=w64
      have ik : In64 (m.Index + (k : Int)):=by unfold In64; omega
      have hb0 : J.b.length ≤ 1000000000:=by omega
      have hl0 : J.log.length ≤ 1000000000:=by omega
      simp [tkA,tkB,mgO,GMessage.cells,GLogged.cells,GEntry.cells,zab,hik,hx',wk,e1,e2,gc,ik,hb0,hl0,← hK]
      (repeat refine dr ?_)
      refine zal (tkB J id n commit votes next mt m) (fun i=>k ≤ i.1 ∧ i.1 ≤ m.Entries.length ∧ appAll i.2 (m.Entries.drop i.1) = appAll K (m.Entries.drop k) ∧ i.2.b.length ≤ J.b.length + 65600 * (i.1 + 1) ∧ i.2.log.length ≤ J.log.length + i.1) (fun i=>m.Entries.length - i.1) (k,K) ?_ ⟨Nat.le_refl _,by omega,by simp only,tk_0 k hKb,by simp only; omega⟩ ?_
      ·refine zak [.inl 0,.inl 1,.inl 2,.inl 3,.inl 4,.inl 5] ?_ ?_ ?_ ?_ <;> simp [mgO,GMessage.cells,hK]
      ·rintro ⟨j,P⟩ ⟨u0,u1,u2,u3,u4⟩
       simp only at u0 u1 u2 u3 u4
       by_cases hjk : j < m.Entries.length
       ·obtain ⟨y,hy,hy',hym⟩:=zav hjk
        obtain ⟨y1,y2⟩:=h4 y hym
        have w4 : IntKind.i64.wrap ((j : Int) + 1) = (j : Int) + 1:=w64
        have hdj : m.Entries.drop j = y :: m.Entries.drop (j + 1):=by rw [← hy']; exact (List.drop_eq_getElem_cons hjk)
        rw [hdj,appAll] at u2
        have hPb : P.b.length ≤ 1000000000:=tk_b h5 h3 u1 u3
        have hPl : P.log.length ≤ 1000000000:=by omega
        have b1:=zb3 P y.Term y.Entry
        have b2:=zcY P y.Term y.Entry
        obtain ⟨P2,hP2⟩ : ∃ P2,P2 = zaw P y.Term y.Entry:=⟨_,rfl⟩
        rw [← hP2] at b1 b2 u2
        simp [tkA,tkB,mgO,GMessage.cells,GLogged.cells,GEntry.cells,zab,hjk,hy',hPb,hPl,y1,y2,← hP2]
        (repeat refine dr ?_)
        refine Again.mk (j + 1,P2) ⟨by simp only; omega,hjk,u2,tk_1 b1 u3,by simp only; omega⟩ (by simp only; omega) ?_
        refine zak [.inl 0,.inl 1,.inl 2,.inl 3,.inl 4,.inl 5] ?_ ?_ ?_ ?_ <;> simp [w4,mgO,GMessage.cells]
       ·have ej : j = m.Entries.length:=by omega
        rw [ej,List.drop_length,appAll] at u2
        rw [← u2] at hr
        have hPs : P.b.length ≤ 4611686018427387904:=Nat.le_trans (tk_b h5 h3 u1 u3) (by decide)
        simp [tkA,tkB,mgO,GMessage.cells,GLogged.cells,GEntry.cells,zab,hjk,hPs,← hen,wn,zeV]
        (repeat refine dr ?_)
        rw [hr]
        refine retE [] [] [] [] [.inl 0,.inl 1,.inl 2,.inl 3,.inl 4] rfl ?_
        simp []
    ·have hno : ¬ (m.Index.toNat + k < J.log.length ∧ (logAt J.log ((m.Index.toNat + k : Nat) : Int)).Term = x.Term):=fun h=>e1 (by omega)
     have hfit : fitN Q m = k:=by rw [← g,hdrop,zl7 hno,Nat.zero_add]
     clear hno
     by_cases gc : m.Index + (k : Int) < commit
     ·have hS : takeR Q m = { Q with role:=1 }:=by simp only [takeR,q1,q2,q3,if_neg g1,if_neg g2,hH,Bool.false_eq_true,if_false,hfit,if_pos hik,if_pos gc]
      have hM : takeM Q m = []:=by simp only [takeM,q1,q2,q3,if_neg g1,if_neg g2,hH,Bool.false_eq_true,if_false,hfit,if_pos (show k < m.Entries.length ∧ m.Index + (k : Int) < commit from ⟨hik,gc⟩)]
      rw [hS,hM] at hr
      simp only [hQ] at hr
      simp [tkA,tkB,mgO,GMessage.cells,GLogged.cells,GEntry.cells,zab,hik,hx',wk,e1,gc]
      (repeat refine dr ?_)
      rw [hr]
      refine Ret.weak (retE [] [] [] [] [.inl 0,.inl 1,.inl 2,.inl 3,.inl 4] rfl ?_) (zax _ 4 9)
      simp []
     obtain ⟨K,hK⟩ : ∃ K,K = J:=⟨_,rfl⟩
     have hfill : fillJ J (m.Index + (k : Int)) (m.Entries.drop k) = syncJ (appAll K (m.Entries.drop k)):=by rw [fillJ,if_neg e1,← hK]
     have hKb : K.b.length ≤ J.b.length + 65600:=by rw [hK]; omega
     have hKl : K.log.length ≤ J.log.length:=by rw [hK]; omega
     have hKt : K.term = J.term:=by rw [hK]
     obtain ⟨en,hen⟩ : ∃ en : Int,en = m.Index + (m.Entries.length : Int):=⟨_,rfl⟩
     have hS : takeR Q m = ⟨syncJ (appAll K (m.Entries.drop k)),id,n,1,max commit (min m.Commit en),votes,next,mt⟩:=by
      simp only [takeR,q1,q2,q3,if_neg g1,if_neg g2,hH,Bool.false_eq_true,if_false,hfit,if_pos hik,if_neg gc,hfill,← hen]; rw [hQ]
     have hM : takeM Q m = [ansM ⟨syncJ (appAll K (m.Entries.drop k)),id,n,1,max commit (min m.Commit en),votes,next,mt⟩ m en true]:=by
      simp only [takeM,q1,q2,q3,if_neg g1,if_neg g2,hH,Bool.false_eq_true,if_false,hfit,if_neg (show ¬ (k < m.Entries.length ∧ m.Index + (k : Int) < commit) from fun h=>gc h.2),← hen]
      simp [ansM,hQ,zcX,hKt]
     rw [hS,hM] at hr
     simp only at hr
     clear g hfit hfill hS hM
     have wn : IntKind.i64.wrap en = en:=w64
     have ik : In64 (m.Index + (k : Int)):=by unfold In64; omega
     have hb0 : J.b.length ≤ 1000000000:=by omega
     have hl0 : J.log.length ≤ 1000000000:=by omega
     simp [tkA,tkB,mgO,GMessage.cells,GLogged.cells,GEntry.cells,zab,hik,hx',wk,e1,gc,ik,hb0,hl0]
     (repeat refine dr ?_)
     refine zal (tkB J id n commit votes next mt m) (fun i=>k ≤ i.1 ∧ i.1 ≤ m.Entries.length ∧ appAll i.2 (m.Entries.drop i.1) = appAll K (m.Entries.drop k) ∧ i.2.b.length ≤ J.b.length + 65600 * (i.1 + 1) ∧ i.2.log.length ≤ J.log.length + i.1) (fun i=>m.Entries.length - i.1) (k,K) ?_ ⟨Nat.le_refl _,by omega,by simp only,tk_0 k hKb,by simp only; omega⟩ ?_
     ·refine zak [.inl 0,.inl 1,.inl 2,.inl 3,.inl 4,.inl 5] ?_ ?_ ?_ ?_ <;> simp [mgO,GMessage.cells,hK]
     ·rintro ⟨j,P⟩ ⟨u0,u1,u2,u3,u4⟩
      simp only at u0 u1 u2 u3 u4
      by_cases hjk : j < m.Entries.length
      ·obtain ⟨y,hy,hy',hym⟩:=zav hjk
       obtain ⟨y1,y2⟩:=h4 y hym
       have w4 : IntKind.i64.wrap ((j : Int) + 1) = (j : Int) + 1:=w64
       have hdj : m.Entries.drop j = y :: m.Entries.drop (j + 1):=by rw [← hy']; exact (List.drop_eq_getElem_cons hjk)
       rw [hdj,appAll] at u2
       have hPb : P.b.length ≤ 1000000000:=tk_b h5 h3 u1 u3
       have hPl : P.log.length ≤ 1000000000:=by omega
       have b1:=zb3 P y.Term y.Entry
       have b2:=zcY P y.Term y.Entry
       obtain ⟨P2,hP2⟩ : ∃ P2,P2 = zaw P y.Term y.Entry:=⟨_,rfl⟩
       rw [← hP2] at b1 b2 u2
       simp [tkA,tkB,mgO,GMessage.cells,GLogged.cells,GEntry.cells,zab,hjk,hy',hPb,hPl,y1,y2,← hP2]
       (repeat refine dr ?_)
       refine Again.mk (j + 1,P2) ⟨by simp only; omega,hjk,u2,tk_1 b1 u3,by simp only; omega⟩ (by simp only; omega) ?_
       refine zak [.inl 0,.inl 1,.inl 2,.inl 3,.inl 4,.inl 5] ?_ ?_ ?_ ?_ <;> simp [w4,mgO,GMessage.cells]
      ·have ej : j = m.Entries.length:=by omega
       rw [ej,List.drop_length,appAll] at u2
       rw [← u2] at hr
       have hPs : P.b.length ≤ 4611686018427387904:=Nat.le_trans (tk_b h5 h3 u1 u3) (by decide)
       simp [tkA,tkB,mgO,GMessage.cells,GLogged.cells,GEntry.cells,zab,hjk,hPs,← hen,wn,zeV]
       (repeat refine dr ?_)
       rw [hr]
       refine retE [] [] [] [] [.inl 0,.inl 1,.inl 2,.inl 3,.inl 4] rfl ?_
       simp []
   ·have ee : k = m.Entries.length:=by omega
    have hfit : fitN Q m = m.Entries.length:=by rw [← g,ee,List.drop_length]; simp [fitGo]
    obtain ⟨en,hen⟩ : ∃ en : Int,en = m.Index + (m.Entries.length : Int):=⟨_,rfl⟩
    have hS : takeR Q m = ⟨J,id,n,1,max commit (min m.Commit en),votes,next,mt⟩:=by
     simp only [takeR,q1,q2,q3,if_neg g1,if_neg g2,hH,Bool.false_eq_true,if_false,hfit,Nat.lt_irrefl,← hen]; rw [hQ]
    have hM : takeM Q m = [ansM ⟨J,id,n,1,max commit (min m.Commit en),votes,next,mt⟩ m en true]:=by
     simp only [takeM,q1,q2,q3,if_neg g1,if_neg g2,hH,Bool.false_eq_true,if_false,hfit,Nat.lt_irrefl,false_and,← hen]
     simp [ansM,hQ]
    rw [hS,hM] at hr
    simp only at hr
    have wn : IntKind.i64.wrap en = en:=w64
    simp [tkA,tkB,mgO,GMessage.cells,GLogged.cells,GEntry.cells,zab,hik,← hen,wn,zeV]
    (repeat refine dr ?_)
    rw [hr]
    refine retE [] [] [] [] [.inl 0,.inl 1,.inl 2,.inl 3,.inl 4] rfl ?_
    simp []
end Go.Proofs.YtcpdgbncekdicaaGreat

namespace Go.Proofs.YtcpdgbncekdicaaGreat
open Go.Lift
set_option maxRecDepth 100000
noncomputable def CQBA:=mkC [(79,zdM),(80,zew),(81,zcm),(82,zdI)]
theorem zyG : zai Tryz.prog CQBA:=zat (all_cons zgi (all_cons zke (all_cons zex (all_cons zgb all_nil))))
@[simp] theorem CQBA_1 : CQBA 79 = zdM:=rfl
@[simp] theorem CQBA_2 : CQBA 80 = zew:=rfl
@[simp] theorem CQBA_3 : CQBA 81 = zcm:=rfl
@[simp] theorem CQBA_4 : CQBA 82 = zdI:=rfl
def candV (id n : Int) : List Bool:=(List.replicate n.toNat false).set id.toNat true
@[simp] theorem zhN (id n : Int) : (candV id n).length = n.toNat:=by simp [candV]
noncomputable def campO (J : JN) (id n role commit : Int) (votes : List Bool) (next mt : List Int) (a b c : Nat) : List AObj :=
 if 1073741824 ≤ J.term then [rr id n role commit (.own 2 0 a) (.own 3 0 b) (.own 4 0 c),rjO J,boO votes,inO next,inO mt]
 else if n = 1 then [rr id n 3 commit (.own 5 0 n.toNat) (.own 6 0 n.toNat) (.own 7 0 n.toNat),rjO (syncJ (zaq J (J.term + 1) id)),boO votes,inO next,inO mt,boT true (candV id n),inO (List.replicate n.toNat (J.log.length : Int)),inO (List.replicate n.toNat 0)]
 else [rr id n 2 commit (.own 5 0 n.toNat) (.own 3 0 b) (.own 4 0 c),rjO (syncJ (zaq J (J.term + 1) id)),boO votes,inO next,inO mt,boT true (candV id n)]
def cpM (id t len last : Int) (i : Int) : GMessage:=⟨1,id,i,t,len,last,0,false,[]⟩
noncomputable def ziK:=fam (fun _ : JN × Int × Int × Int × Int × (List Bool) × (List Int) × (List Int) × Nat × Nat × Nat=>[V.ptr 0 0 0]) (fun i=>[rr i.2.1 i.2.2.1 i.2.2.2.1 i.2.2.2.2.1 (.own 2 0 i.2.2.2.2.2.2.2.2.1) (.own 3 0 i.2.2.2.2.2.2.2.2.2.1) (.own 4 0 i.2.2.2.2.2.2.2.2.2.2),rjO i.1,boO i.2.2.2.2.2.1,inO i.2.2.2.2.2.2.1,inO i.2.2.2.2.2.2.2.1]) (fun i=>(i.2.2.2.2.2.2.2.2.1 = i.2.2.2.2.2.1.length) ∧ (i.2.2.2.2.2.2.2.2.2.1 = i.2.2.2.2.2.2.1.length) ∧ (i.2.2.2.2.2.2.2.2.2.2 = i.2.2.2.2.2.2.2.1.length) ∧ (0 ≤ i.2.1) ∧ (i.2.1 < i.2.2.1) ∧ (i.2.2.1 ≤ 5) ∧ (0 ≤ i.1.term) ∧ (i.1.b.length ≤ 900000000) ∧ (i.1.log.length ≤ 900000000)) (fun i=>⟨.sl 2 9 (GMessage.row (campM (⟨i.1,i.2.1,i.2.2.1,i.2.2.2.1,i.2.2.2.2.1,i.2.2.2.2.2.1,i.2.2.2.2.2.2.1,i.2.2.2.2.2.2.2.1⟩ : RN))),campO i.1 i.2.1 i.2.2.1 i.2.2.2.1 i.2.2.2.2.1 i.2.2.2.2.2.1 i.2.2.2.2.2.2.1 i.2.2.2.2.2.2.2.1 i.2.2.2.2.2.2.2.2.1 i.2.2.2.2.2.2.2.2.2.1 i.2.2.2.2.2.2.2.2.2.2⟩)
@[simp] theorem zpQ {J : JN} {id n role commit : Int} {votes : List Bool} {next mt : List Int} {a b c : Nat} (h1 : a = votes.length) (h2 : b = next.length) (h3 : c = mt.length) (h4 : 0 ≤ id) (h5 : id < n) (h6 : n ≤ 5) (h7 : 0 ≤ J.term) (h8 : J.b.length ≤ 900000000) (h9 : J.log.length ≤ 900000000) : ziK ([V.ptr 0 0 0]) ([rr id n role commit (.own 2 0 a) (.own 3 0 b) (.own 4 0 c),rjO J,boO votes,inO next,inO mt]) = some (⟨.sl 2 9 (GMessage.row (campM (⟨J,id,n,role,commit,votes,next,mt⟩ : RN))),campO J id n role commit votes next mt a b c⟩) :=
 zag (by rintro ⟨a0,a1,a2,a3,a4,a5,a6,a7,a8,a9,a10⟩ ⟨b0,b1,b2,b3,b4,b5,b6,b7,b8,b9,b10⟩ h h' <;> simp at h h' <;> simp_all) (J,id,n,role,commit,votes,next,mt,a,b,c) ⟨h1,h2,h3,h4,h5,h6,h7,h8,h9⟩
def cpSt0 (K : JN) (f : Nat) (n commit : Int) (votes : List Bool) (next mt : List Int) (_ : Unit) : St:=mkSt [(0,.ptr 0 0 0),(3,.sl 0 1 []),(4,.sl 2 1 []),(5,.int .i64 0)] [(0,rr (f : Int) n 3 commit (.own 5 0 n.toNat) (.own 6 0 n.toNat) (.own 7 0 n.toNat)),(1,rjO K),(2,boO votes),(3,inO next),(4,inO mt),(5,boT true (candV (f : Int) n)),(6,inO (List.replicate n.toNat (K.log.length : Int))),(7,inO (List.replicate n.toNat 0))] 8
theorem zxw (l : List GMessage) : (GMessage.row l).map (·.map (nilC 10)) = GMessage.row l:=by simp [GMessage.row,GMessage.cells,nilC]
def cpSt (K : JN) (id n commit : Int) (votes : List Bool) (next mt : List Int) (l : List Int) (i : Nat) : St:=mkSt [(0,.ptr 0 0 0),(3,.own 5 0 i),(4,.sl 2 1 (zaF l)),(5,.int .i64 i)] [(0,rr id n 2 commit (.own 6 0 n.toNat) (.own 3 0 next.length) (.own 4 0 mt.length)),(1,rjO K),(2,boO votes),(3,inO next),(4,inO mt),(5,msO ((l.take i).map (cpM id K.term K.log.length (lastT K.log)))),(6,boT true (candV id n))] 7
set_option maxHeartbeats 8000000 in
theorem zpR : Lift.Spec Tryz.prog 47 ziK:=by
 refine zad [] (C:=CQBA) zac zyG follows Tryz.func47 (by kernel_rfl) rfl (by kernel_rfl) rfl ?_
 rintro ⟨J,id,n,role,commit,votes,next,mt,a,b,c⟩ ⟨ha,hb,hc,h1,h2,h3,h4,h5,h6⟩
 try simp only at ha hb hc h1 h2 h3 h4 h5 h6
 refine ⟨by simp,?_⟩
 intro r hr
 subst ha hb hc
 obtain ⟨f,rfl⟩:=Int.eq_ofNat_of_zero_le h1
 simp only [campO,campM] at hr
 by_cases g1 : 1073741824 ≤ J.term
 ·simp only [if_pos g1] at hr
  simp [g1]
  rw [hr]
  refine Ret.weak (retE [] [] [] [] [.inl 0,.inl 1,.inl 2,.inl 3,.inl 4] rfl ?_) (zax _ 2 9)
  simp
 simp only [if_neg g1] at hr
 have w1 : IntKind.i64.wrap (J.term + 1) = J.term + 1:=w64
 have i1 : In64 (J.term + 1):=by unfold In64; omega
 have i2 : In64 (f : Int):=by unfold In64; omega
 have b1 : J.b.length ≤ 1000000000:=by omega
 have n0 : 0 ≤ n:=by omega
 have n4 : n ≤ 140737488351232:=by omega
 have n6 : n ≤ 140737488355328:=by omega
 have hfn : f < n.toNat:=by omega
 have hfx : (f : Int) < max n 0:=by omega
 obtain ⟨K,hK⟩ : ∃ K,K = syncJ (zaq J (J.term + 1) (f : Int)):=⟨_,rfl⟩
 have kl : K.log = J.log:=by rw [hK,zaZ,zaQ]
 have se : stE J (J.term + 1) (f : Int) = 0:=by unfold stE; rw [if_neg (by omega),if_neg (by omega)]
 have kt : K.term = J.term + 1:=by rw [hK,zb6,zaR,if_pos se]
 have l1 : K.log.length ≤ 1000000000:=by rw [kl]; omega
 have l2 : K.log.length ≤ 4611686018427387904:=by rw [kl]; omega
 have hrep : List.replicate n.toNat [V.bool false] = zaC (List.replicate n.toNat false):=by simp [zaC]
 have hset : (List.replicate n.toNat [V.bool false]).set f [V.bool true] = zaC (candV (f : Int) n):=by rw [hrep]; simp [candV,zaC,List.map_set]
 rw [← hK] at hr
 by_cases g2 : n = 1
 ·simp only [if_pos g2] at hr
  have ho : othL (f : Int) n = []:=by
   have : f = 0:=by omega
   rw [this,g2]; rfl
  simp [g1,w1,i1,i2,b1,eq_true g2,n0,n4,n6,h3,← hK,l1,l2,hfn,hfx,ho,hset]
  (repeat refine dr ?_)
  refine zal (cpSt0 K f n commit votes next mt) (fun _=>True) (fun _=>0) () ?_ trivial ?_
  ·refine zrl [.inl 0,.inl 1,.inl 2,.inl 3,.inl 4] [(0,5),(0,6),(0,7)] ?_ ?_ ?_ ?_ <;> simp
  ·intro u _
   simp [cpSt0]
   rw [hr]
   refine Ret.weak (retE [] [] [] [] [.inl 0,.inl 1,.inl 2,.inl 3,.inl 4,.inl 5,.inl 6,.inl 7] rfl ?_) (zax _ 2 9)
   simp [ho,kl]
 ·simp only [if_neg g2] at hr
  obtain ⟨l,hl⟩ : ∃ l,l = othL (f : Int) n:=⟨_,rfl⟩
  have hl5 : l.length ≤ 5:=by rw [hl]; exact zfu h3
  simp [g1,w1,i1,i2,b1,g2,n0,n4,n6,h3,← hK,l1,l2,hfn,hfx,hset,← hl]
  (repeat refine dr ?_)
  refine zal (cpSt K (f : Int) n commit votes next mt l) (fun i=>i ≤ l.length) (fun i=>l.length - i) 0 ?_ (Nat.zero_le _) ?_
  ·refine (zcw 3 5000 (sz:=1) (msO []) ?_ ?_ rfl).trans (zrl [.inl 0,.inl 1,.inl 2,.inl 3,.inl 4,.inl 5000] [(0,5)] ?_ ?_ ?_ ?_) <;> simp [msO]
  ·intro i hi
   by_cases hik : i < l.length
   ·obtain ⟨x,hx,hx',hxm⟩:=zav hik
    have w4 : IntKind.i64.wrap ((i : Int) + 1) = (i : Int) + 1:=w64
    have u1 : ((i : Int) + 1) * 88 ≤ 140737488355328:=by omega
    have u2 : (i : Int) + 1 ≤ 140737488355328:=by omega
    have hmn : min i l.length = i:=by omega
    have htk : (l.take (i + 1)).map (cpM (f : Int) K.term K.log.length (lastT K.log)) = (l.take i).map (cpM (f : Int) K.term K.log.length (lastT K.log)) ++ [cpM (f : Int) K.term K.log.length (lastT K.log) x]:=by rw [List.take_add_one,hx]; simp
    have hrow : [[V.int .i64 1,.int .i64 (f : Int),.int .i64 x,.int .i64 K.term,.int .i64 (K.log.length : Int),.int .i64 (lastT K.log),.int .i64 0,.bool false,.sl 2 10 []]] = GMessage.row [cpM (f : Int) K.term K.log.length (lastT K.log) x]:=rfl
    simp [cpSt,msO,hik,hx',u1,u2,hmn,l2]
    (repeat refine dr ?_)
    refine Again.mk (i + 1) hik (by show l.length - (i + 1) < l.length - i; omega) ?_
    refine (zbP _ (.inr 3) 10).trans (zak [.inl 0,.inl 1,.inl 2,.inl 3,.inl 4,.inr 3,.inl 6] ?_ ?_ ?_ ?_) <;> simp [w4,hrow,htk,msO,zxw]
   ·have e : i = l.length:=by omega
    subst e
    simp [cpSt,msO]
    rw [hr]
    refine retE [.inr 2] [] [] [] [.inl 0,.inl 1,.inl 2,.inl 3,.inl 4,.inl 6] rfl ?_
    simp [← hl,kl,kt]
    try exact List.take_of_length_le (by simp)
end Go.Proofs.YtcpdgbncekdicaaGreat

namespace Go.Proofs.YtcpdgbncekdicaaGreat
open Go.Lift
set_option maxRecDepth 100000
def rrP (p : Nat) (id n role commit : Int) (v x y : V) : AObj:=⟨74,8,[[.ptr p 0 0,.int .i64 id,.int .i64 n,.int .i64 role,.int .i64 commit,v,x,y]],true,0,.rw⟩
@[simp] theorem zym (l : List Bool) : (zaC l).take l.length = zaC l:=List.take_of_length_le (by simp)
noncomputable def CQC:=mkC [(57,ziI)]
theorem zAe : zai Tryz.prog CQC:=zat (all_cons zpN all_nil)
@[simp] theorem CQC_1 : CQC 57 = ziI:=rfl
end Go.Proofs.YtcpdgbncekdicaaGreat

namespace Go.Proofs.YtcpdgbncekdicaaGreat
open Go.Lift
set_option maxRecDepth 100000
theorem zlI (R : RN) (m : GMessage) : (voteR R m).role = R.role:=by unfold voteR; split <;> rfl
theorem zib (R : RN) (m : GMessage) : (voteR R m).commit = R.commit:=by unfold voteR; split <;> rfl
theorem zlH (R : RN) (m : GMessage) : (voteR R m).next = R.next:=by unfold voteR; split <;> rfl
theorem zrk (R : RN) (m : GMessage) : (voteR R m).mt = R.mt:=by unfold voteR; split <;> rfl
theorem zlE (R : RN) (m : GMessage) : (takeR R m).next = R.next:=by
 unfold takeR; repeat' split
 all_goals rfl
theorem zrh (R : RN) (m : GMessage) : (takeR R m).mt = R.mt:=by
 unfold takeR; repeat' split
 all_goals rfl
theorem zkl (R : RN) (m : GMessage) : (zaT R m).J = R.J:=by
 unfold zaT; repeat' split
 all_goals rfl
theorem zh9 (R : RN) (m : GMessage) : (zaT R m).role = R.role:=by
 unfold zaT; repeat' split
 all_goals rfl
structure HandOk (J : JN) (n role commit : Int) (votes : List Bool) (next mt : List Int) (m : GMessage) : Prop where
 n0 : 0 ≤ n
 n5 : n ≤ 5
 b : J.b.length ≤ 400000000
 log : J.log.length ≤ 400000000
 t : In64 J.term
 c : 0 ≤ commit
 vo : role = 2 → votes.length = n.toNat
 le : role = 3 → NxOk J next n ∧ MtOk J mt n
 es : ∀ x ∈ m.Entries,GLogged.ok x
theorem zcd {R : RN} {m : GMessage} (h : zaI R m = true) : goodM R m:=by
 unfold zaI at h
 simp only [Bool.and_eq_true,decide_eq_true_eq] at h
 exact h.1
theorem zeq {R : RN} {m : GMessage} (h : zaI R m = true) (hk : m.Kind = 3) : m.Entries.length ≤ 4096:=by
 have hg:=zcd h
 unfold zaI at h
 rw [if_pos hk] at h
 simp only [Bool.and_eq_true,decide_eq_true_eq] at h
 have:=h.2.2.1
 have:=hg.2.2.2.2.2.2.2.2.1
 omega
noncomputable def handO (J : JN) (id n role commit : Int) (votes : List Bool) (next mt : List Int) (a b c : Nat) (m : GMessage) : List AObj :=
 if zaI (⟨J,id,n,role,commit,votes,next,mt⟩ : RN) m = true then (if m.Kind = 2 then zch (meetR (⟨J,id,n,role,commit,votes,next,mt⟩ : RN) m).J id n (meetR (⟨J,id,n,role,commit,votes,next,mt⟩ : RN) m).role commit votes next mt a b c m else [rr id n (handR (⟨J,id,n,role,commit,votes,next,mt⟩ : RN) m).role (handR (⟨J,id,n,role,commit,votes,next,mt⟩ : RN) m).commit (.own 2 0 a) (.own 3 0 b) (.own 4 0 c),rjO (handR (⟨J,id,n,role,commit,votes,next,mt⟩ : RN) m).J,boO votes,inO (handR (⟨J,id,n,role,commit,votes,next,mt⟩ : RN) m).next,inO (handR (⟨J,id,n,role,commit,votes,next,mt⟩ : RN) m).mt]) else [rr id n role commit (.own 2 0 a) (.own 3 0 b) (.own 4 0 c),rjO J,boO votes,inO next,inO mt]
noncomputable def CQD:=mkC [(89,zfD),(79,zdM),(90,ziM),(91,zg4),(92,ziL),(93,zfE)]
theorem zAf : zai Tryz.prog CQD:=zat (all_cons zmE (all_cons zgi (all_cons zpU (all_cons zoe (all_cons zpT (all_cons zmF all_nil))))))
@[simp] theorem CQD_1 : CQD 89 = zfD:=rfl
@[simp] theorem CQD_2 : CQD 79 = zdM:=rfl
@[simp] theorem CQD_3 : CQD 90 = ziM:=rfl
@[simp] theorem CQD_4 : CQD 91 = zg4:=rfl
@[simp] theorem CQD_5 : CQD 92 = ziL:=rfl
@[simp] theorem CQD_6 : CQD 93 = zfE:=rfl
noncomputable def zfC:=fam (fun i : JN × Int × Int × Int × Int × (List Bool) × (List Int) × (List Int) × Nat × Nat × Nat × GMessage=>[V.ptr 0 0 0,zam i.2.2.2.2.2.2.2.2.2.2.2]) (fun i=>[rr i.2.1 i.2.2.1 i.2.2.2.1 i.2.2.2.2.1 (.own 2 0 i.2.2.2.2.2.2.2.2.1) (.own 3 0 i.2.2.2.2.2.2.2.2.2.1) (.own 4 0 i.2.2.2.2.2.2.2.2.2.2.1),rjO i.1,boO i.2.2.2.2.2.1,inO i.2.2.2.2.2.2.1,inO i.2.2.2.2.2.2.2.1]) (fun i=>(i.2.2.2.2.2.2.2.2.1 = i.2.2.2.2.2.1.length) ∧ (i.2.2.2.2.2.2.2.2.2.1 = i.2.2.2.2.2.2.1.length) ∧ (i.2.2.2.2.2.2.2.2.2.2.1 = i.2.2.2.2.2.2.2.1.length) ∧ (HandOk i.1 i.2.2.1 i.2.2.2.1 i.2.2.2.2.1 i.2.2.2.2.2.1 i.2.2.2.2.2.2.1 i.2.2.2.2.2.2.2.1 i.2.2.2.2.2.2.2.2.2.2.2)) (fun i=>⟨.sl 2 9 (GMessage.row (handM (⟨i.1,i.2.1,i.2.2.1,i.2.2.2.1,i.2.2.2.2.1,i.2.2.2.2.2.1,i.2.2.2.2.2.2.1,i.2.2.2.2.2.2.2.1⟩ : RN) i.2.2.2.2.2.2.2.2.2.2.2)),handO i.1 i.2.1 i.2.2.1 i.2.2.2.1 i.2.2.2.2.1 i.2.2.2.2.2.1 i.2.2.2.2.2.2.1 i.2.2.2.2.2.2.2.1 i.2.2.2.2.2.2.2.2.1 i.2.2.2.2.2.2.2.2.2.1 i.2.2.2.2.2.2.2.2.2.2.1 i.2.2.2.2.2.2.2.2.2.2.2⟩)
@[simp] theorem zg2 {J : JN} {id n role commit : Int} {votes : List Bool} {next mt : List Int} {a b c : Nat} {m : GMessage} (h1 : a = votes.length) (h2 : b = next.length) (h3 : c = mt.length) (h4 : HandOk J n role commit votes next mt m) : zfC ([V.ptr 0 0 0,zam m]) ([rr id n role commit (.own 2 0 a) (.own 3 0 b) (.own 4 0 c),rjO J,boO votes,inO next,inO mt]) = some (⟨.sl 2 9 (GMessage.row (handM (⟨J,id,n,role,commit,votes,next,mt⟩ : RN) m)),handO J id n role commit votes next mt a b c m⟩) :=
 zag (by rintro ⟨a0,a1,a2,a3,a4,a5,a6,a7,a8,a9,a10,a11⟩ ⟨b0,b1,b2,b3,b4,b5,b6,b7,b8,b9,b10,b11⟩ h h' <;> simp at h h' <;> simp_all) (J,id,n,role,commit,votes,next,mt,a,b,c,m) ⟨h1,h2,h3,h4⟩
set_option maxHeartbeats 40000000 in
theorem zmC : Lift.Spec Tryz.prog 54 zfC:=by
 refine zad [] (C:=CQD) zac zAf follows Tryz.func54 (by kernel_rfl) rfl (by kernel_rfl) rfl ?_
 rintro ⟨J,id,n,role,commit,votes,next,mt,a,b,c,m⟩ ⟨ha,hb,hc,hk⟩
 try simp only at ha hb hc hk
 refine ⟨by simp,?_⟩
 intro r hr
 subst ha hb hc
 by_cases hp : zaI (⟨J,id,n,role,commit,votes,next,mt⟩ : RN) m = true
 rotate_left
 ·simp only [handO,handM,if_neg hp] at hr
  simp [GMessage.cells,zab,hp]
  rw [hr]
  refine Ret.weak (retE [] [] [] [] [.inl 0,.inl 1,.inl 2,.inl 3,.inl 4] rfl ?_) (zax _ 4 9)
  simp
 obtain ⟨_,f0,f1,_,_,_,t0,t9,x0,x1,_⟩:=zcd hp
 simp only at f0 f1 t0 t9 x0 x1
 have hkb:=hk.b
 have hkl:=hk.log
 have hk5:=hk.n5
 have iF : In64 m.From:=by unfold In64; omega
 by_cases hm : J.term < m.Term
 ·obtain ⟨K,hK⟩ : ∃ K,K = syncJ (zaq J m.Term (-1)):=⟨_,rfl⟩
  have hme : meetR (⟨J,id,n,role,commit,votes,next,mt⟩ : RN) m = ⟨K,id,n,1,commit,votes,next,mt⟩:=by simp only [meetR,if_pos hm,termR,← hK]
  have iT : In64 m.Term:=by unfold In64; omega
  have iV : In64 (-1):=zqR
  have b0 : J.b.length ≤ 1000000000:=by omega
  have kb : K.b.length ≤ J.b.length + 65600:=by rw [hK,zqb]; exact zcf _ _ _
  have kl : K.log = J.log:=by rw [hK,zaZ,zaQ]
  have b1 : K.b.length ≤ 1000000000:=by omega
  have b5 : K.b.length ≤ 500000000:=by omega
  have l1 : K.log.length ≤ 1000000000:=by rw [kl]; omega
  have l5 : K.log.length ≤ 500000000:=by rw [kl]; omega
  have t1 : In64 K.term:=by
   rw [hK,zb6,zaR]
   split
   ·exact iT
   ·exact hk.t
  have vo1 : (1 : Int) = 2 → votes.length = n.toNat:=fun h=>by omega
  have le1 : (1 : Int) = 3 → NxOk K next n ∧ MtOk K mt n:=fun h=>by omega
  by_cases k1 : m.Kind = 1
  ·simp only [handO,handR,handM,if_pos hp,hme,if_pos k1,if_neg (show ¬ m.Kind = 2 by omega),zlI,zib,zlH,zrk] at hr
   simp [GMessage.cells,zab,hp,hm,iT,iV,b0,← hK,eq_true k1,b1,l1,t1,iF]
   (repeat refine dr ?_)
   rw [hr]
   refine retE [] [] [] [] [.inl 0,.inl 1,.inl 2,.inl 3,.inl 4] rfl ?_
   simp
  by_cases k2 : m.Kind = 2
  ·simp only [handO,handM,if_pos hp,hme,if_neg k1,if_pos k2] at hr
   cases cb : zb7 (⟨K,id,n,1,commit,votes,next,mt⟩ : RN) m with
   | false =>
    have hvo : zch K id n 1 commit votes next mt votes.length next.length mt.length m = [rr id n 1 commit (.own 2 0 votes.length) (.own 3 0 next.length) (.own 4 0 mt.length),rjO K,boO votes,inO next,inO mt]:=by simp only [zch,cb,Bool.false_eq_true,if_false]
    rw [hvo] at hr
    have eV:=zcF (J:=K) (id:=id) (n:=n) (role:=1) (commit:=commit) (votes:=votes) (next:=next) (mt:=mt) (a:=votes.length) (b:=next.length) (c:=mt.length) (m:=m) rfl rfl rfl hk.n0 hk.n5 f0 f1 vo1 l1
    rw [hvo] at eV
    simp [GMessage.cells,zab,hp,hm,iT,iV,b0,← hK,k1,eq_true k2,eV]
    (repeat refine dr ?_)
    rw [hr]
    refine retE [] [] [] [] [.inl 0,.inl 1,.inl 2,.inl 3,.inl 4] rfl ?_
    simp
   | true =>
    by_cases q : 2 * (cntT (votes.set m.From.toNat true) : Int) ≤ n
    ·have hvo : zch K id n 1 commit votes next mt votes.length next.length mt.length m = [rr id n 1 commit (.own 2 0 votes.length) (.own 3 0 next.length) (.own 4 0 mt.length),rjO K,boO (votes.set m.From.toNat true),inO next,inO mt]:=by simp only [zch,cb,if_true,if_pos q]
     rw [hvo] at hr
     have eV:=zcF (J:=K) (id:=id) (n:=n) (role:=1) (commit:=commit) (votes:=votes) (next:=next) (mt:=mt) (a:=votes.length) (b:=next.length) (c:=mt.length) (m:=m) rfl rfl rfl hk.n0 hk.n5 f0 f1 vo1 l1
     rw [hvo] at eV
     simp [GMessage.cells,zab,hp,hm,iT,iV,b0,← hK,k1,eq_true k2,eV]
     (repeat refine dr ?_)
     rw [hr]
     refine retE [] [] [] [] [.inl 0,.inl 1,.inl 2,.inl 3,.inl 4] rfl ?_
     simp
    ·have hvo : zch K id n 1 commit votes next mt votes.length next.length mt.length m = [rr id n 3 commit (.own 2 0 votes.length) (.own 5 0 n.toNat) (.own 6 0 n.toNat),rjO K,boO (votes.set m.From.toNat true),inO next,inO mt,inO (List.replicate n.toNat (K.log.length : Int)),inO (List.replicate n.toNat 0)]:=by simp only [zch,cb,if_true,if_neg q]
     rw [hvo] at hr
     have eV:=zcF (J:=K) (id:=id) (n:=n) (role:=1) (commit:=commit) (votes:=votes) (next:=next) (mt:=mt) (a:=votes.length) (b:=next.length) (c:=mt.length) (m:=m) rfl rfl rfl hk.n0 hk.n5 f0 f1 vo1 l1
     rw [hvo] at eV
     simp [GMessage.cells,zab,hp,hm,iT,iV,b0,← hK,k1,eq_true k2,eV]
     (repeat refine dr ?_)
     rw [hr]
     refine retN [] [.inl 0,.inl 1,.inl 2,.inl 3,.inl 4] [(0,6),(0,7)] rfl ?_
     simp
  by_cases k3 : m.Kind = 3
  ·have hlen:=zeq hp k3
   simp only [handO,handR,handM,if_pos hp,hme,if_neg k1,if_neg k2,if_pos k3,zlE,zrh] at hr
   have eT:=zkf (J:=K) (id:=id) (n:=n) (role:=1) (commit:=commit) (votes:=votes) (next:=next) (mt:=mt) (a:=votes.length) (b:=next.length) (c:=mt.length) (m:=m) rfl rfl rfl x0 x1 hlen hk.es b5 l5
   simp [GMessage.cells,zab,hp,hm,iT,iV,b0,← hK,k1,k2,eq_true k3,eT]
   (repeat refine dr ?_)
   rw [hr]
   refine retE [] [] [] [] [.inl 0,.inl 1,.inl 2,.inl 3,.inl 4] rfl ?_
   simp
  ·simp only [handO,handR,handM,if_pos hp,hme,if_neg k1,if_neg k2,if_neg k3,zkl,zh9] at hr
   have eS:=zg3 (J:=K) (id:=id) (n:=n) (role:=1) (commit:=commit) (votes:=votes) (next:=next) (mt:=mt) (a:=votes.length) (b:=next.length) (c:=mt.length) (m:=m) rfl rfl rfl hk.n0 hk.n5 f0 f1 x0 hk.c le1 l1
   simp [GMessage.cells,zab,hp,hm,iT,iV,b0,← hK,k1,k2,k3,eS]
   (repeat refine dr ?_)
   rw [hr]
   refine retE [] [] [] [] [.inl 0,.inl 1,.inl 2,.inl 3,.inl 4] rfl ?_
   simp
 ·have hme : meetR (⟨J,id,n,role,commit,votes,next,mt⟩ : RN) m = ⟨J,id,n,role,commit,votes,next,mt⟩:=by simp only [meetR,if_neg hm]
  have b1 : J.b.length ≤ 1000000000:=by omega
  have b5 : J.b.length ≤ 500000000:=by omega
  have l1 : J.log.length ≤ 1000000000:=by omega
  have l5 : J.log.length ≤ 500000000:=by omega
  have t1:=hk.t
  have vo1:=hk.vo
  have le1:=hk.le
  by_cases k1 : m.Kind = 1
  ·simp only [handO,handR,handM,if_pos hp,hme,if_pos k1,if_neg (show ¬ m.Kind = 2 by omega),zlI,zib,zlH,zrk] at hr
   simp [GMessage.cells,zab,hp,hm,eq_true k1,b1,l1,t1,iF]
   (repeat refine dr ?_)
   rw [hr]
   refine retE [] [] [] [] [.inl 0,.inl 1,.inl 2,.inl 3,.inl 4] rfl ?_
   simp
  by_cases k2 : m.Kind = 2
  ·simp only [handO,handM,if_pos hp,hme,if_neg k1,if_pos k2] at hr
   cases cb : zb7 (⟨J,id,n,role,commit,votes,next,mt⟩ : RN) m with
   | false =>
    have hvo : zch J id n role commit votes next mt votes.length next.length mt.length m = [rr id n role commit (.own 2 0 votes.length) (.own 3 0 next.length) (.own 4 0 mt.length),rjO J,boO votes,inO next,inO mt]:=by simp only [zch,cb,Bool.false_eq_true,if_false]
    rw [hvo] at hr
    have eV:=zcF (J:=J) (id:=id) (n:=n) (role:=role) (commit:=commit) (votes:=votes) (next:=next) (mt:=mt) (a:=votes.length) (b:=next.length) (c:=mt.length) (m:=m) rfl rfl rfl hk.n0 hk.n5 f0 f1 vo1 l1
    rw [hvo] at eV
    simp [GMessage.cells,zab,hp,hm,k1,eq_true k2,eV]
    (repeat refine dr ?_)
    rw [hr]
    refine retE [] [] [] [] [.inl 0,.inl 1,.inl 2,.inl 3,.inl 4] rfl ?_
    simp
   | true =>
    by_cases q : 2 * (cntT (votes.set m.From.toNat true) : Int) ≤ n
    ·have hvo : zch J id n role commit votes next mt votes.length next.length mt.length m = [rr id n role commit (.own 2 0 votes.length) (.own 3 0 next.length) (.own 4 0 mt.length),rjO J,boO (votes.set m.From.toNat true),inO next,inO mt]:=by simp only [zch,cb,if_true,if_pos q]
     rw [hvo] at hr
     have eV:=zcF (J:=J) (id:=id) (n:=n) (role:=role) (commit:=commit) (votes:=votes) (next:=next) (mt:=mt) (a:=votes.length) (b:=next.length) (c:=mt.length) (m:=m) rfl rfl rfl hk.n0 hk.n5 f0 f1 vo1 l1
     rw [hvo] at eV
     simp [GMessage.cells,zab,hp,hm,k1,eq_true k2,eV]
     (repeat refine dr ?_)
     rw [hr]
     refine retE [] [] [] [] [.inl 0,.inl 1,.inl 2,.inl 3,.inl 4] rfl ?_
     simp
    ·have hvo : zch J id n role commit votes next mt votes.length next.length mt.length m = [rr id n 3 commit (.own 2 0 votes.length) (.own 5 0 n.toNat) (.own 6 0 n.toNat),rjO J,boO (votes.set m.From.toNat true),inO next,inO mt,inO (List.replicate n.toNat (J.log.length : Int)),inO (List.replicate n.toNat 0)]:=by simp only [zch,cb,if_true,if_neg q]
     rw [hvo] at hr
     have eV:=zcF (J:=J) (id:=id) (n:=n) (role:=role) (commit:=commit) (votes:=votes) (next:=next) (mt:=mt) (a:=votes.length) (b:=next.length) (c:=mt.length) (m:=m) rfl rfl rfl hk.n0 hk.n5 f0 f1 vo1 l1
     rw [hvo] at eV
     simp [GMessage.cells,zab,hp,hm,k1,eq_true k2,eV]
     (repeat refine dr ?_)
     rw [hr]
     refine retN [] [.inl 0,.inl 1,.inl 2,.inl 3,.inl 4] [(0,6),(0,7)] rfl ?_
     simp
  by_cases k3 : m.Kind = 3
  ·have hlen:=zeq hp k3
   simp only [handO,handR,handM,if_pos hp,hme,if_neg k1,if_neg k2,if_pos k3,zlE,zrh] at hr
   have eT:=zkf (J:=J) (id:=id) (n:=n) (role:=role) (commit:=commit) (votes:=votes) (next:=next) (mt:=mt) (a:=votes.length) (b:=next.length) (c:=mt.length) (m:=m) rfl rfl rfl x0 x1 hlen hk.es b5 l5
   simp [GMessage.cells,zab,hp,hm,k1,k2,eq_true k3,eT]
   (repeat refine dr ?_)
   rw [hr]
   refine retE [] [] [] [] [.inl 0,.inl 1,.inl 2,.inl 3,.inl 4] rfl ?_
   simp
  ·simp only [handO,handR,handM,if_pos hp,hme,if_neg k1,if_neg k2,if_neg k3,zkl,zh9] at hr
   have eS:=zg3 (J:=J) (id:=id) (n:=n) (role:=role) (commit:=commit) (votes:=votes) (next:=next) (mt:=mt) (a:=votes.length) (b:=next.length) (c:=mt.length) (m:=m) rfl rfl rfl hk.n0 hk.n5 f0 f1 x0 hk.c le1 l1
   simp [GMessage.cells,zab,hp,hm,k1,k2,k3,eS]
   (repeat refine dr ?_)
   rw [hr]
   refine retE [] [] [] [] [.inl 0,.inl 1,.inl 2,.inl 3,.inl 4] rfl ?_
   simp
end Go.Proofs.YtcpdgbncekdicaaGreat

namespace Go.Proofs.YtcpdgbncekdicaaGreat
open Go.Lift
set_option maxRecDepth 100000
noncomputable def slgSp:=fam (fun i : Nat × Nat × (List GLogged)=>[V.sl i.1 10 (GLogged.row i.2.2),.sl i.2.1 10 (GLogged.row i.2.2)]) (fun _=>[]) (fun i=>(i.2.2.length ≤ 1000000000)) (fun _=>⟨.bool true,[]⟩)
@[simp] theorem zrd {t u : Nat} {l : List GLogged} (h1 : l.length ≤ 1000000000) : slgSp ([V.sl t 10 (GLogged.row l),.sl u 10 (GLogged.row l)]) ([]) = some (⟨.bool true,[]⟩) :=
 zag (by rintro ⟨a0,a1,a2⟩ ⟨b0,b1,b2⟩ h h' <;> simp at h h' <;> simp_all) (t,u,l) h1
def slgSt (t u : Nat) (l : List GLogged) (i : Nat) : St:=mkSt [(0,.sl t 10 (GLogged.row l)),(1,.sl u 10 (GLogged.row l)),(5,.int .i64 i)] [] 0
set_option maxHeartbeats 4000000 in
theorem zmJ : Lift.Spec Tryz.prog 23 slgSp:=by
 refine zaj (C:=C0) zac C0_ok follows Tryz.func23 (by kernel_rfl) rfl (by kernel_rfl) rfl ?_
 rintro ⟨t,u,l⟩ h1
 try simp only at h1
 refine ⟨by simp,?_⟩
 intro r hr
 simp
 refine zal (slgSt t u l) (fun i=>i ≤ l.length) (fun i=>l.length - i) 0 ?_ (Nat.zero_le _) ?_
 ·refine zaW id ?_ ?_ ?_ ?_ <;> simp
 ·intro i hi
  by_cases hik : i < l.length
  ·obtain ⟨x,hx,hx',hxm⟩:=zav hik
   have w4 : IntKind.i64.wrap ((i : Int) + 1) = (i : Int) + 1:=w64
   simp [slgSt,hik,hx',GLogged.cells,zdP]
   (repeat refine dr ?_)
   refine Again.mk (i + 1) hik (by show l.length - (i + 1) < l.length - i; omega) ?_
   refine zaW id ?_ ?_ ?_ ?_ <;> simp [w4]
  ·simp [slgSt,hik]
   ((repeat refine dr ?_); rw [hr]; refine zaa rfl ?_ rfl; simp)
def MsOk (l : List GMessage) : Prop:=∀ x ∈ l,x.Entries.length ≤ 1000000000
noncomputable def CQE:=mkC [(23,slgSp)]
theorem zAg : zai Tryz.prog CQE:=zat (all_cons zmJ all_nil)
@[simp] theorem CQE_1 : CQE 23 = slgSp:=rfl
noncomputable def smgSp:=fam (fun i : Nat × Nat × (List GMessage)=>[V.sl i.1 9 (GMessage.row i.2.2),.sl i.2.1 9 (GMessage.row i.2.2)]) (fun _=>[]) (fun i=>(i.2.2.length ≤ 1000000000) ∧ (MsOk i.2.2)) (fun _=>⟨.bool true,[]⟩)
@[simp] theorem zfF {t u : Nat} {l : List GMessage} (h1 : l.length ≤ 1000000000) (h2 : MsOk l) : smgSp ([V.sl t 9 (GMessage.row l),.sl u 9 (GMessage.row l)]) ([]) = some (⟨.bool true,[]⟩) :=
 zag (by rintro ⟨a0,a1,a2⟩ ⟨b0,b1,b2⟩ h h' <;> simp at h h' <;> simp_all) (t,u,l) ⟨h1,h2⟩
def smgSt (t u : Nat) (l : List GMessage) (i : Nat) : St:=mkSt [(0,.sl t 9 (GMessage.row l)),(1,.sl u 9 (GMessage.row l)),(5,.int .i64 i)] [] 0
set_option maxHeartbeats 8000000 in
theorem zxC : Lift.Spec Tryz.prog 46 smgSp:=by
 refine zaj (C:=CQE) zac zAg follows Tryz.func46 (by kernel_rfl) rfl (by kernel_rfl) rfl ?_
 rintro ⟨t,u,l⟩ ⟨h1,h2⟩
 try simp only at h1 h2
 refine ⟨by simp,?_⟩
 intro r hr
 simp
 refine zal (smgSt t u l) (fun i=>i ≤ l.length) (fun i=>l.length - i) 0 ?_ (Nat.zero_le _) ?_
 ·refine zaW id ?_ ?_ ?_ ?_ <;> simp
 ·intro i hi
  by_cases hik : i < l.length
  ·obtain ⟨x,hx,hx',hxm⟩:=zav hik
   have hxe:=h2 x hxm
   have w4 : IntKind.i64.wrap ((i : Int) + 1) = (i : Int) + 1:=w64
   simp [smgSt,hik,hx',GMessage.cells,hxe]
   (repeat refine dr ?_)
   refine Again.mk (i + 1) hik (by show l.length - (i + 1) < l.length - i; omega) ?_
   refine zaW id ?_ ?_ ?_ ?_ <;> simp [w4]
  ·simp [smgSt,hik]
   ((repeat refine dr ?_); rw [hr]; refine zaa rfl ?_ rfl; simp)
end Go.Proofs.YtcpdgbncekdicaaGreat

namespace Go.Proofs.YtcpdgbncekdicaaGreat
open Go.Lift
set_option maxRecDepth 100000
structure LiveR (R : RN) (k : Nat) : Prop where
 live : LiveJ R.J k
 id0 : 0 ≤ R.id
 idn : R.id < R.n
 n5 : R.n ≤ 5
 vo : R.role = 2 → R.votes.length = R.n.toNat
 le : R.role = 3 → NxOk R.J R.next R.n ∧ MtOk R.J R.mt R.n
 c0 : 0 ≤ R.commit
 c1 : R.commit ≤ R.J.log.length
theorem LiveR.more {R : RN} {k m : Nat} (h : LiveR R k) (hm : k ≤ m) : LiveR R m:=⟨h.live.more hm,h.id0,h.idn,h.n5,h.vo,h.le,h.c0,h.c1⟩
theorem LiveR.new {id n : Int} (h0 : 0 ≤ id) (h1 : id < n) (h2 : n ≤ 5) : LiveR (newR id n) 0 :=
 ⟨LiveJ.zero,h0,h1,h2,fun h=>by simp [newR] at h,fun h=>by simp [newR] at h,by simp [newR],by simp [newR]⟩
theorem LiveR.crash {R : RN} {k : Nat} (h : LiveR R k) (keep : Int) : LiveR (zeF R keep) k :=
 ⟨h.live.crash keep,h.id0,h.idn,h.n5,fun e=>by simp [zeF] at e,fun e=>by simp [zeF] at e,by simp [zeF],by simp [zeF]⟩
theorem MtOk.zero (J : JN) (n : Int) : MtOk J (List.replicate n.toNat 0) n:=by
 refine ⟨by simp,fun x hx=>?_⟩
 have:=(List.mem_replicate.1 hx).2
 omega
theorem LiveR.lead {R : RN} {k : Nat} (h : LiveR R k) : LiveR (leadR R) k :=
 ⟨h.live,h.id0,h.idn,h.n5,fun e=>by simp [leadR] at e,fun _=>⟨NxOk.lead R.J R.n,MtOk.zero R.J R.n⟩,h.c0,h.c1⟩
theorem LiveR.num {R : RN} {k : Nat} (h : LiveR R k) : NumJ R.J:=h.live.num
theorem LiveR.cand {R : RN} {k : Nat} (h : LiveR R k) (ht : R.J.term < 1073741824) : LiveR (candR R) (k + 1):=by
 have n0:=h.num.t0
 have i1 : In64 (R.J.term + 1):=by unfold In64; omega
 have i2 : In64 R.id:=by have:=h.id0; have:=h.idn; have:=h.n5; unfold In64; omega
 have hl : (syncJ (zaq R.J (R.J.term + 1) R.id)).log = R.J.log:=by rw [zaZ,zaQ]
 refine ⟨(h.live.setTerm i1 i2).sync,h.id0,h.idn,h.n5,fun _=>?_,fun e=>?_,h.c0,?_⟩
 ·simp [candR,termR]
 ·simp [candR,termR] at e
 ·show R.commit ≤ ((syncJ (zaq R.J (R.J.term + 1) R.id)).log.length : Int)
  rw [hl]; exact h.c1
theorem LiveR.camp {R : RN} {k : Nat} (h : LiveR R k) : LiveR (campR R) (k + 1):=by
 unfold campR
 split
 ·exact h.more (by omega)
 ·split
  ·exact (h.cand (by omega)).lead
  ·exact h.cand (by omega)
theorem zif (R : RN) : ∀ m : Nat,R.commit ≤ advGo R m
 | 0=>Int.le_refl _
 | k + 1=>by
  rw [advGo]
  split
  ·exact Int.le_refl _
  ·split
   ·exact Int.le_refl _
   ·split
    ·omega
    ·exact zif R k
theorem zqu (R : RN) {b : Int} (hb : R.commit ≤ b) : ∀ m : Nat,(m : Int) ≤ b → advGo R m ≤ b
 | 0,_=>hb
 | k + 1,h=>by
  rw [advGo]
  split
  ·exact hb
  ·split
   ·exact hb
   ·split
    ·push_cast at h; omega
    ·exact zqu R hb k (by push_cast at h; omega)
theorem LiveR.adv {R : RN} {k : Nat} (h : LiveR R k) : LiveR (advR R) k:=by
 have h1:=zif R R.J.log.length
 have h2:=zqu R h.c1 R.J.log.length (Int.le_refl _)
 exact ⟨h.live,h.id0,h.idn,h.n5,h.vo,h.le,by show 0 ≤ advGo R _; have:=h.c0; omega,h2⟩
theorem LiveR.prop {R : RN} {k : Nat} (h : LiveR R k) {e : GEntry} (he : GEntry.ok e) : LiveR (propR R e) (k + 1):=by
 unfold propR
 split
 ·have n0:=h.num.t0
  have n1:=h.num.t1
  have it : In64 R.J.term:=by unfold In64; omega
  have hl : R.J.log.length ≤ (syncJ (zaw R.J R.J.term e)).log.length:=by
   rw [zaZ,za5]; split <;> simp
  refine LiveR.adv (R:={ R with J:=syncJ (zaw R.J R.J.term e) }) ⟨(h.live.append it he).sync,h.id0,h.idn,h.n5,h.vo,fun e3=>⟨(h.le e3).1.more hl,(h.le e3).2.more hl⟩,h.c0,?_⟩
  have:=h.c1
  show R.commit ≤ ((syncJ (zaw R.J R.J.term e)).log.length : Int)
  omega
 ·exact h.more (by omega)
end Go.Proofs.YtcpdgbncekdicaaGreat

namespace Go.Proofs.YtcpdgbncekdicaaGreat
open Go.Lift
set_option maxRecDepth 100000
theorem LiveR.meet {R : RN} {k : Nat} (h : LiveR R k) {m : GMessage} (ht : In64 m.Term) : LiveR (meetR R m) (k + 1):=by
 unfold meetR
 split
 ·have hl : (syncJ (zaq R.J m.Term (-1))).log = R.J.log:=by rw [zaZ,zaQ]
  refine ⟨(h.live.setTerm ht zqR).sync,h.id0,h.idn,h.n5,fun e=>?_,fun e=>?_,h.c0,?_⟩
  ·simp [termR] at e
  ·simp [termR] at e
  ·show R.commit ≤ ((syncJ (zaq R.J m.Term (-1))).log.length : Int)
   rw [hl]; exact h.c1
 ·exact h.more (by omega)
theorem LiveR.vote {R : RN} {k : Nat} (h : LiveR R k) {m : GMessage} (hf : In64 m.From) : LiveR (voteR R m) (k + 1):=by
 unfold voteR
 split
 ·have n0:=h.num.t0
  have n1:=h.num.t1
  have it : In64 R.J.term:=by unfold In64; omega
  have hl : (syncJ (zaq R.J R.J.term m.From)).log = R.J.log:=by rw [zaZ,zaQ]
  have hl2 : R.J.log.length ≤ (syncJ (zaq R.J R.J.term m.From)).log.length:=by rw [hl]; exact Nat.le_refl _
  refine ⟨(h.live.setTerm it hf).sync,h.id0,h.idn,h.n5,h.vo,fun e=>⟨(h.le e).1.more hl2,(h.le e).2.more hl2⟩,h.c0,?_⟩
  show R.commit ≤ ((syncJ (zaq R.J R.J.term m.From)).log.length : Int)
  rw [hl]; exact h.c1
 ·exact h.more (by omega)
theorem LiveR.heard {R : RN} {k : Nat} (h : LiveR R k) (m : GMessage) : LiveR (zcD R m) k :=
 ⟨h.live,h.id0,h.idn,h.n5,fun e=>by simp only [zcD,List.length_set]; exact h.vo e,h.le,h.c0,h.c1⟩
theorem LiveR.voted {R : RN} {k : Nat} (h : LiveR R k) (m : GMessage) : LiveR (zcT R m) k:=by
 unfold zcT
 split
 ·split
  ·exact h.heard m
  ·exact (h.heard m).lead
 ·exact h
theorem NxOk.set {J : JN} {l : List Int} {n : Int} (h : NxOk J l n) (i : Nat) {v : Int} (h0 : 0 ≤ v) (h1 : v ≤ J.log.length) : NxOk J (l.set i v) n:=by
 refine ⟨by rw [List.length_set]; exact h.1,fun x hx=>?_⟩
 rcases List.mem_or_eq_of_mem_set hx with hx | hx
 ·exact h.2 x hx
 ·rw [hx]; exact ⟨h0,h1⟩
theorem MtOk.set {J : JN} {l : List Int} {n : Int} (h : MtOk J l n) (i : Nat) {v : Int} (h0 : 0 ≤ v) (h1 : v ≤ J.log.length) : MtOk J (l.set i v) n:=by
 refine ⟨by rw [List.length_set]; exact h.1,fun x hx=>?_⟩
 rcases List.mem_or_eq_of_mem_set hx with hx | hx
 ·exact h.2 x hx
 ·rw [hx]; exact ⟨h0,h1⟩
theorem zjJ {l : List Int} {b : Int} (hb : 0 ≤ b) (h : ∀ x ∈ l,0 ≤ x ∧ x ≤ b) (i : Nat) : 0 ≤ l.getD i 0 ∧ l.getD i 0 ≤ b:=by
 rw [List.getD_eq_getElem?_getD]
 cases hx : l[i]? with
 | none=>simp; exact hb
 | some x=>exact h x (List.mem_of_getElem? hx)
theorem LiveR.stored {R : RN} {k : Nat} (h : LiveR R k) {m : GMessage} (hi : 0 ≤ m.Index) : LiveR (zaT R m) k:=by
 unfold zaT
 split
 ·exact h
 ·rename_i hc
  have h3 : R.role = 3:=by
   rcases Classical.em (R.role = 3) with e | e
   ·exact e
   ·exact absurd (.inl e) hc
  obtain ⟨hn,hm⟩:=h.le h3
  have b0 : (0 : Int) ≤ R.J.log.length:=by omega
  split
  ·have q:=zjJ b0 hn.2 m.From.toNat
   refine ⟨h.live,h.id0,h.idn,h.n5,h.vo,fun e=>⟨hn.set _ ?_ ?_,hm⟩,h.c0,h.c1⟩
   ·omega
   ·show max 0 (min (nxR R m.From - 1) m.Index) ≤ _
    unfold nxR; omega
  ·split
   ·rename_i hle
    have q:=zjJ b0 hm.2 m.From.toNat
    have v0 : 0 ≤ max (mtR R m.From) m.Index:=by omega
    have v1 : max (mtR R m.From) m.Index ≤ R.J.log.length:=by unfold mtR; omega
    exact LiveR.adv (R:=zfO R m) ⟨h.live,h.id0,h.idn,h.n5,h.vo,fun e=>⟨hn.set _ v0 v1,hm.set _ v0 v1⟩,h.c0,h.c1⟩
   ·exact h
end Go.Proofs.YtcpdgbncekdicaaGreat

namespace Go.Proofs.YtcpdgbncekdicaaGreat
open Go.Lift
set_option maxRecDepth 100000
theorem zsg (l : List GLogged) (e : GLogged) : lastT (l ++ [e]) = e.Term:=by
 unfold lastT
 rw [show (((l ++ [e]).length : Int) - 1) = ((l.length : Nat) : Int) by simp,zb1 (x:=e) (by simp)]
theorem znc : ∀ (es : List GLogged) (J : JN) (last : Int),entsB last J.term es = true → lastT J.log ≤ last → 1 ≤ last → J.term ≤ 1073741824 → J.log.length + es.length ≤ 4096 → (appAll J es).log = J.log ++ es
 | [],J,_,_,_,_,_,_=>by simp [appAll]
 | e :: es,J,last,h,hl,h1,ht,hn=>by
  rw [entsB] at h
  simp only [Bool.and_eq_true,decide_eq_true_eq] at h
  obtain ⟨hs,a1,a2,h⟩:=h
  simp only [List.length_cons] at hn
  have ha : adE J e.Term e.Entry = 0:=by
   unfold adE
   rw [if_neg (by rw [hs]; simp; omega),if_neg (by omega),if_neg (by omega)]
  have hlog : (zaw J e.Term e.Entry).log = J.log ++ [e]:=by rw [za5,if_pos ha]
  have htm : (zaw J e.Term e.Entry).term = J.term:=zbz _ _ _
  rw [appAll,znc es _ e.Term (by rw [htm]; exact h) (by rw [hlog,zsg]; exact Int.le_refl _) (by omega) (by rw [htm]; exact ht) (by rw [hlog]; simp; omega),hlog]
  simp
def zhW (last : Int) (es : List GLogged) : Nat → Int
 | 0=>last
 | k + 1=>match es[k]? with | some e=>e.Term | none=>last
theorem zk3 : ∀ (es : List GLogged) (last T : Int) (k : Nat),entsB last T es = true → k ≤ es.length → entsB (zhW last es k) T (es.drop k) = true ∧ last ≤ zhW last es k
 | es,last,T,0,h,_=>⟨h,Int.le_refl _⟩
 | [],last,T,k + 1,h,hk=>by simp at hk
 | e :: es,last,T,k + 1,h,hk=>by
  rw [entsB] at h
  simp only [Bool.and_eq_true,decide_eq_true_eq] at h
  obtain ⟨hs,a1,a2,h⟩:=h
  obtain ⟨b1,b2⟩:=zk3 es e.Term T k h (by simpa using hk)
  have e1 : zhW last (e :: es) (k + 1) = zhW e.Term es k:=by
   cases k with
   | zero=>rfl
   | succ j =>
    have hj : j < es.length:=by simp at hk; omega
    simp [zhW,List.getElem?_eq_getElem hj]
  rw [e1]
  exact ⟨b1,by omega⟩
theorem zl6 (log : List GLogged) : ∀ (es : List GLogged) (i : Nat),fitGo log i es ≤ es.length
 | [],_=>Nat.le_refl _
 | e :: es,i=>by
  rw [fitGo]
  split
  ·have:=zl6 log es (i + 1); simp only [List.length_cons]; omega
  ·omega
theorem zqL (log : List GLogged) : ∀ (es : List GLogged) (i j : Nat),j < fitGo log i es → i + j < log.length ∧ ∃ e,es[j]? = some e ∧ (logAt log ((i + j : Nat) : Int)).Term = e.Term
 | [],i,j,h=>by simp [fitGo] at h
 | e :: es,i,j,h=>by
  rw [fitGo] at h
  split at h
  ·rename_i hc
   cases j with
   | zero=>exact ⟨hc.1,e,rfl,hc.2⟩
   | succ j =>
    obtain ⟨h1,x,h2,h3⟩:=zqL log es (i + 1) j (by omega)
    refine ⟨by omega,x,by simpa using h2,?_⟩
    rw [show i + (j + 1) = i + 1 + j by omega]; exact h3
  ·omega
theorem zlg (l : List GLogged) (p : Nat) (h : p + 1 ≤ l.length) : lastT (l.take (p + 1)) = (logAt l (p : Int)).Term:=by
 obtain ⟨x,hx,_,_⟩:=zav (show p < l.length by omega)
 unfold lastT
 have hl : (l.take (p + 1)).length = p + 1:=by rw [List.length_take]; omega
 rw [hl,show (((p + 1 : Nat) : Int) - 1) = (p : Int) by omega,zb1 hx,zb1 (x:=x) (by rw [List.getElem?_take,if_pos (by omega)]; exact hx)]
theorem LiveJ.appAll : ∀ (es : List GLogged) {J : JN} {n : Nat},LiveJ J n → (∀ x ∈ es,GLogged.ok x) → LiveJ (appAll J es) (n + es.length)
 | [],_,_,h,_=>h
 | e :: es,J,n,h,hk=>by
  have he:=hk e (by simp)
  have:=LiveJ.appAll es (h.append he.1 he.2) (fun x hx=>hk x (by simp [hx]))
  rw [Proofs.YtcpdgbncekdicaaGreat.appAll]
  exact this.more (by simp only [List.length_cons]; omega)
structure ApOk (m : GMessage) : Prop where
 x0 : 0 ≤ m.Index
 n : (m.Entries.length : Int) ≤ 4096 - m.Index
 es : entsB (max 1 m.PrevTerm) m.Term m.Entries = true
 ok : ∀ x ∈ m.Entries,GLogged.ok x
theorem LiveR.take {R : RN} {k : Nat} (h : LiveR R k) {m : GMessage} (hm : ApOk m) (hT : R.J.term ≤ m.Term → R.J.term = m.Term) : LiveR (takeR R m) (k + 2 + m.Entries.length):=by
 have role1 : ∀ (c : Int),0 ≤ c → c ≤ R.J.log.length → LiveR { R with role:=1,commit:=c } (k + 2 + m.Entries.length):=fun c a b =>
  ⟨h.live.more (by omega),h.id0,h.idn,h.n5,fun e=>by simp at e,fun e=>by simp at e,a,b⟩
 unfold takeR
 split
 ·exact h.more (by omega)
 rename_i g1
 split
 ·exact h.more (by omega)
 split
 ·exact role1 R.commit h.c0 h.c1
 rename_i g3
 have hh : ¬ ((R.J.log.length : Int) < m.Index ∨ 0 < m.Index ∧ (logAt R.J.log (m.Index - 1)).Term ≠ m.PrevTerm):=by
  intro hc; exact g3 (by unfold holeB; exact decide_eq_true hc)
 have hfl:=zl6 R.J.log m.Entries m.Index.toNat
 have hfe : fitN R m = fitGo R.J.log m.Index.toNat m.Entries:=rfl
 obtain ⟨f,hf⟩ : ∃ f,f = fitN R m:=⟨_,rfl⟩
 rw [← hfe,← hf] at hfl
 have hat:=zqL R.J.log m.Entries m.Index.toNat
 rw [← hfe,← hf] at hat
 rw [← hf]
 have x0:=hm.x0
 have hx1 : m.Index ≤ R.J.log.length:=by
  rcases Classical.em ((R.J.log.length : Int) < m.Index) with e | e
  ·exact absurd (.inl e) hh
  ·omega
 have hp : m.Index.toNat + f ≤ R.J.log.length:=by
  cases f with
  | zero=>omega
  | succ j=>have:=(hat j (by omega)).1; omega
 split
 ·rename_i hlt
  split
  ·exact role1 R.commit h.c0 h.c1
  ·rename_i hcm
   obtain ⟨hd,hlo⟩:=zk3 m.Entries (max 1 m.PrevTerm) m.Term f hm.es hfl
   have hterm : R.J.term = m.Term:=hT (by omega)
   obtain ⟨K,hK⟩ : ∃ K,K = if m.Index + (f : Int) < R.J.log.length then cutJ R.J (m.Index + (f : Int)) else R.J:=⟨_,rfl⟩
   have hKlog : K.log = R.J.log.take (m.Index.toNat + f):=by
    rw [hK]
    split
    ·rename_i hc
     rw [zfb,if_pos (by unfold cuE; rw [if_neg (by omega)])]
     congr 1; omega
    ·rw [List.take_of_length_le (by omega)]
   have hKt : K.term = R.J.term:=by rw [hK]; split; exact zcs _ _; rfl
   have hKl : LiveJ K (k + 1):=by
    rw [hK]
    split
    ·refine h.live.cut ?_
     have:=h.live.log
     unfold In64; omega
    ·exact h.live.more (by omega)
   have hlast : lastT K.log ≤ zhW (max 1 m.PrevTerm) m.Entries f:=by
    rw [hKlog]
    cases f with
    | zero =>
     cases hi : m.Index.toNat with
     | zero=>simp [lastT,logAt,zhW]; omega
     | succ q =>
      rw [Nat.add_zero,zlg _ _ (by omega)]
      have e1 : (q : Int) = m.Index - 1:=by omega
      have e2 : (logAt R.J.log (m.Index - 1)).Term = m.PrevTerm:=by
       rcases Classical.em ((logAt R.J.log (m.Index - 1)).Term = m.PrevTerm) with e | e
       ·exact e
       ·exact absurd (.inr ⟨by omega,e⟩) hh
      rw [e1,e2]
      show m.PrevTerm ≤ max 1 m.PrevTerm
      omega
    | succ j =>
     obtain ⟨a1,e,a2,a3⟩:=hat j (by omega)
     rw [show m.Index.toNat + (j + 1) = m.Index.toNat + j + 1 by omega,zlg _ _ (by omega),a3]
     simp [zhW,a2]
   have hn1:=h.num.t1
   have hKn : K.log.length = m.Index.toNat + f:=by rw [hKlog,List.length_take]; omega
   have hdl : (m.Entries.drop f).length = m.Entries.length - f:=List.length_drop
   have hmn:=hm.n
   have hall:=znc (m.Entries.drop f) K _ (by rw [hKt,hterm]; exact hd) hlast (by omega) (by rw [hKt]; exact hn1) (by rw [hKn,hdl]; omega)
   have hfin : (appAll K (m.Entries.drop f)).log.length = m.Index.toNat + m.Entries.length:=by rw [hall,List.length_append,hKn,hdl]; omega
   have hJ : fillJ R.J (m.Index + (f : Int)) (m.Entries.drop f) = syncJ (appAll K (m.Entries.drop f)):=by rw [fillJ,← hK]
   rw [hJ]
   have hc0:=h.c0
   refine ⟨((LiveJ.appAll (m.Entries.drop f) hKl (fun x hx=>hm.ok x (List.mem_of_mem_drop hx))).sync).more (by rw [hdl]; omega),h.id0,h.idn,h.n5,fun e=>by simp at e,fun e=>by simp at e,by show 0 ≤ max _ _; omega,?_⟩
   show max R.commit (min m.Commit (m.Index + m.Entries.length)) ≤ (((syncJ (appAll K (m.Entries.drop f))).log.length : Nat) : Int)
   rw [zaZ,hfin]
   omega
 ·rename_i hlt
  have hc0:=h.c0
  have hc1:=h.c1
  exact role1 _ (by omega) (by omega)
end Go.Proofs.YtcpdgbncekdicaaGreat

namespace Go.Proofs.YtcpdgbncekdicaaGreat
open Go.Lift
set_option maxRecDepth 100000
theorem zli {R : RN} {k : Nat} (h : LiveR R k) {m : GMessage} (h1 : 1 ≤ m.Term) (h2 : m.Term ≤ 1073741824) : (meetR R m).J.term = max R.J.term m.Term:=by
 have n0:=h.num.t0
 unfold meetR
 split
 ·rename_i hlt
  have hs : stE R.J m.Term (-1) = 0:=by unfold stE; rw [if_neg (by omega),if_neg (by omega)]
  show (syncJ (zaq R.J m.Term (-1))).term = _
  rw [zb6,zaR,if_pos hs]
  omega
 ·omega
theorem zln {R : RN} {m : GMessage} (h : zaI R m = true) (hk : m.Kind = 3) (ho : ∀ x ∈ m.Entries,GLogged.ok x) : ApOk m:=by
 have hg:=zcd h
 unfold zaI at h
 rw [if_pos hk] at h
 simp only [Bool.and_eq_true,decide_eq_true_eq] at h
 exact ⟨hg.2.2.2.2.2.2.2.2.1,h.2.2.1,h.2.2.2,ho⟩
theorem LiveR.hand {R : RN} {k : Nat} (h : LiveR R k) {m : GMessage} (ho : ∀ x ∈ m.Entries,GLogged.ok x) : LiveR (handR R m) (k + 3 + m.Entries.length):=by
 unfold handR
 split
 ·rename_i hp
  have hg:=zcd hp
  obtain ⟨_,f0,f1,_,_,_,t0,t1,x0,x1,_⟩:=hg
  have n5:=h.n5
  have iT : In64 m.Term:=by unfold In64; omega
  have iF : In64 m.From:=by unfold In64; omega
  have hm:=h.meet iT
  split
  ·exact (hm.vote iF).more (by omega)
  split
  ·exact (hm.voted m).more (by omega)
  split
  ·rename_i k3
   refine (hm.take (zln hp k3 ho) fun hle=>?_).more (by omega)
   rw [zli h t0 t1] at hle ⊢
   omega
  ·exact (hm.stored x0).more (by omega)
 ·exact h.more (by omega)
end Go.Proofs.YtcpdgbncekdicaaGreat

namespace Go.Proofs.YtcpdgbncekdicaaGreat
open Go.Lift
set_option maxRecDepth 100000
structure LaterJ (J K : JN) : Prop where
 t : J.term ≤ K.term
 v : K.term = J.term → J.vote ≠ -1 → K.vote = J.vote
theorem LaterJ.refl (J : JN) : LaterJ J J:=⟨Int.le_refl _,fun _ _=>rfl⟩
theorem LaterJ.trans {J K L : JN} (h : LaterJ J K) (g : LaterJ K L) : LaterJ J L:=by
 refine ⟨Int.le_trans h.t g.t,fun e hv=>?_⟩
 have a:=h.t
 have b:=g.t
 have e1 : K.term = J.term:=by omega
 have e2 : L.term = K.term:=by omega
 have v1:=h.v e1 hv
 rw [g.v e2 (by rw [v1]; exact hv),v1]
theorem LaterJ.same {J K : JN} (h1 : K.term = J.term) (h2 : K.vote = J.vote) : LaterJ J K:=⟨by omega,fun _ _=>h2⟩
theorem LaterJ.setTerm (J : JN) (t v : Int) : LaterJ J (syncJ (zaq J t v)):=by
 by_cases h0 : stE J t v = 0
 ·have e1 : (syncJ (zaq J t v)).term = t:=by rw [zb6,zaR,if_pos h0]
  have e2 : (syncJ (zaq J t v)).vote = v:=by rw [zlB,zcn,if_pos h0]
  unfold stE at h0
  split at h0
  ·omega
  ·split at h0
   ·omega
   ·rename_i hh
    refine ⟨by rw [e1]; omega,fun a b=>?_⟩
    rw [e1] at a
    rw [e2]
    rcases Classical.em (J.vote = v) with e | e
    ·exact e.symm
    ·exact absurd (.inr ⟨a,b,e⟩) hh
 ·exact LaterJ.same (by rw [zb6,zaR,if_neg h0]) (by rw [zlB,zcn,if_neg h0])
theorem LaterJ.append (J : JN) (t : Int) (e : GEntry) : LaterJ J (zaw J t e):=LaterJ.same (zbz _ _ _) (zdD _ _ _)
theorem zrC (J : JN) (n : Int) : (cutJ J n).vote = J.vote:=by
 unfold cutJ
 split
 ·show (cuJ J n).vote = _
  unfold cuJ; split <;> rfl
 ·rfl
theorem LaterJ.cut (J : JN) (n : Int) : LaterJ J (cutJ J n):=LaterJ.same (zcs _ _) (zrC _ _)
theorem LaterJ.appAll : ∀ (es : List GLogged) (J : JN),LaterJ J (appAll J es)
 | [],J=>LaterJ.refl J
 | e :: es,J=>(LaterJ.append J e.Term e.Entry).trans (LaterJ.appAll es _)
theorem LaterJ.sync {J K : JN} (h : LaterJ J K) : LaterJ J (syncJ K):=h.trans (LaterJ.same rfl rfl)
theorem zsi (R : RN) (m : GMessage) : LaterJ R.J (meetR R m).J:=by
 unfold meetR
 split
 ·exact LaterJ.setTerm _ _ _
 ·exact LaterJ.refl _
theorem zsl (R : RN) (m : GMessage) : LaterJ R.J (voteR R m).J:=by
 unfold voteR
 split
 ·exact LaterJ.setTerm _ _ _
 ·exact LaterJ.refl _
theorem zpr (R : RN) (m : GMessage) : LaterJ R.J (zcT R m).J:=by
 unfold zcT
 repeat' split
 all_goals exact LaterJ.refl _
theorem zsk (R : RN) (m : GMessage) : LaterJ R.J (takeR R m).J:=by
 unfold takeR
 repeat' split
 all_goals first
  | exact LaterJ.refl _
  | (show LaterJ R.J (fillJ R.J _ _)
     unfold fillJ
     split
     ·exact ((LaterJ.cut _ _).trans (LaterJ.appAll _ _)).sync
     ·exact (LaterJ.appAll _ _).sync)
theorem znM (R : RN) (m : GMessage) : LaterJ R.J (zaT R m).J:=by rw [zkl]; exact LaterJ.refl _
theorem zlh (R : RN) (m : GMessage) : LaterJ R.J (handR R m).J:=by
 unfold handR
 split
 ·have h:=zsi R m
  split
  ·exact h.trans (zsl _ _)
  split
  ·exact h.trans (zpr _ _)
  split
  ·exact h.trans (zsk _ _)
  ·exact h.trans (znM _ _)
 ·exact LaterJ.refl _
theorem zsh (R : RN) : LaterJ R.J (campR R).J:=by
 unfold campR
 split
 ·exact LaterJ.refl _
 ·split
  ·exact LaterJ.setTerm _ _ _
  ·exact LaterJ.setTerm _ _ _
theorem zsj (R : RN) (e : GEntry) : LaterJ R.J (propR R e).J:=by
 unfold propR
 split
 ·exact (LaterJ.append _ _ _).sync
 ·exact LaterJ.refl _
end Go.Proofs.YtcpdgbncekdicaaGreat

namespace Go.Proofs.YtcpdgbncekdicaaGreat
open Go.Lift
set_option maxRecDepth 100000
theorem zhe : ∀ (es : List GLogged) (J : JN) (c : Nat),c ≤ J.log.length → (appAll J es).log.take c = J.log.take c ∧ c ≤ (appAll J es).log.length
 | [],J,c,h=>⟨rfl,h⟩
 | e :: es,J,c,h=>by
  have hl:=za5 J e.Term e.Entry
  have h1 : c ≤ (zaw J e.Term e.Entry).log.length:=by
   rw [hl]
   split
   ·simp; omega
   ·exact h
  have h2 : (zaw J e.Term e.Entry).log.take c = J.log.take c:=by
   rw [hl]
   split
   ·rw [List.take_append_of_le_length h]
   ·rfl
  obtain ⟨a,b⟩:=zhe es _ c h1
  rw [appAll]
  exact ⟨a.trans h2,b⟩
theorem zwQ (J : JN) (i : Int) (c : Nat) (h : (c : Int) ≤ i) (hc : c ≤ J.log.length) : (cutJ J i).log.take c = J.log.take c ∧ c ≤ (cutJ J i).log.length:=by
 rw [zfb]
 split
 ·rename_i h0
  have : i ≤ J.log.length:=by unfold cuE at h0; split at h0 <;> omega
  refine ⟨by rw [List.take_take]; congr 1; omega,by rw [List.length_take]; omega⟩
 ·exact ⟨rfl,hc⟩
structure PreR (R S : RN) : Prop where
 log : ∀ c : Nat,(c : Int) ≤ R.commit → c ≤ R.J.log.length → S.J.log.take c = R.J.log.take c
 c : R.commit ≤ S.commit
theorem zxl (R : RN) (m : GMessage) : (meetR R m).J.log = R.J.log ∧ (meetR R m).commit = R.commit:=by
 unfold meetR
 split
 ·exact ⟨by show (syncJ (zaq R.J m.Term (-1))).log = _; rw [zaZ,zaQ],rfl⟩
 ·exact ⟨rfl,rfl⟩
theorem PreR.same {R S : RN} (h1 : S.J.log = R.J.log) (h2 : R.commit ≤ S.commit) : PreR R S:=⟨fun c _ _=>by rw [h1],h2⟩
theorem zxo (R : RN) (m : GMessage) : PreR R (voteR R m):=by
 unfold voteR
 split
 ·exact PreR.same (by show (syncJ (zaq R.J R.J.term m.From)).log = _; rw [zaZ,zaQ]) (Int.le_refl _)
 ·exact PreR.same rfl (Int.le_refl _)
theorem zu0 (R : RN) (m : GMessage) : PreR R (zcT R m):=by
 unfold zcT
 repeat' split
 all_goals exact PreR.same rfl (Int.le_refl _)
theorem zsy (R : RN) (m : GMessage) : PreR R (zaT R m):=by
 unfold zaT
 repeat' split
 all_goals first
  | exact PreR.same rfl (Int.le_refl _)
  | exact PreR.same rfl (zif (zfO R m) _)
theorem zxn (R : RN) (m : GMessage) : PreR R (takeR R m):=by
 unfold takeR
 split
 ·exact PreR.same rfl (Int.le_refl _)
 split
 ·exact PreR.same rfl (Int.le_refl _)
 split
 ·exact PreR.same rfl (Int.le_refl _)
 split
 ·split
  ·exact PreR.same rfl (Int.le_refl _)
  ·rename_i hc
   refine ⟨fun c h1 h2=>?_,by show R.commit ≤ max _ _; omega⟩
   show (fillJ R.J _ _).log.take c = _
   unfold fillJ
   rw [zaZ]
   split
   ·obtain ⟨a,b⟩:=zwQ R.J (m.Index + (fitN R m : Int)) c (by omega) h2
    exact (zhe _ _ c b).1.trans a
   ·exact (zhe _ _ c h2).1
 ·exact PreR.same rfl (by show R.commit ≤ max _ _; omega)
theorem zq8 (R : RN) (m : GMessage) : PreR R (handR R m):=by
 unfold handR
 split
 ·obtain ⟨e1,e2⟩:=zxl R m
  have go : ∀ S,PreR (meetR R m) S → PreR R S:=fun S h=>⟨fun c a b=>by rw [h.log c (by rw [e2]; exact a) (by rw [e1]; exact b),e1],by rw [← e2]; exact h.c⟩
  split
  ·exact go _ (zxo _ _)
  split
  ·exact go _ (zu0 _ _)
  split
  ·exact go _ (zxn _ _)
  ·exact go _ (zsy _ _)
 ·exact PreR.same rfl (Int.le_refl _)
theorem zxk (R : RN) : PreR R (campR R):=by
 have hl : (syncJ (zaq R.J (R.J.term + 1) R.id)).log = R.J.log:=by rw [zaZ,zaQ]
 unfold campR
 split
 ·exact PreR.same rfl (Int.le_refl _)
 ·split
  ·exact PreR.same hl (Int.le_refl _)
  ·exact PreR.same hl (Int.le_refl _)
theorem zxm (R : RN) (e : GEntry) : PreR R (propR R e):=by
 unfold propR
 split
 ·refine ⟨fun c _ h=>?_,zif { R with J:=syncJ (zaw R.J R.J.term e) } _⟩
  show (syncJ (zaw R.J R.J.term e)).log.take c = _
  rw [zaZ,za5]
  split
  ·rw [List.take_append_of_le_length h]
  ·rfl
 ·exact PreR.same rfl (Int.le_refl _)
end Go.Proofs.YtcpdgbncekdicaaGreat

namespace Go.Proofs.YtcpdgbncekdicaaGreat
open Go.Lift
set_option maxRecDepth 100000
theorem zhv : Lift.Spec Tryz.prog 24 zhZ:=by
 refine zaj (C:=CNE) zac zAa follows Tryz.func24 (by kernel_rfl) rfl (by kernel_rfl) rfl ?_
 rintro n _
 try simp only at _
 refine ⟨by simp,?_⟩
 intro r hr
 simp [GEntry.cells]
 ((repeat refine dr ?_); rw [hr]; refine zaa rfl ?_ rfl; simp [noteE])
def fewTo (l : List GL09Step) (i : Nat) : Bool:=(l.take i).all fun x=>decide (x.M.Entries.length ≤ 8)
def fewL9 (l : List GL09Step) : Bool:=decide (l.length ≤ 40) && fewTo l l.length
theorem zrX {l : List GL09Step} {i : Nat} {x : GL09Step} (h : l[i]? = some x) : fewTo l (i + 1) = (fewTo l i && decide (x.M.Entries.length ≤ 8)):=by
 unfold fewTo; rw [List.take_add_one,h]; simp only [Option.toList_some,List.all_append,List.all_cons,List.all_nil,Bool.and_true]
theorem zrW {l : List GL09Step} {i : Nat} {x : GL09Step} (h : l[i]? = some x) (hx : ¬ x.M.Entries.length ≤ 8) : fewTo l l.length = false:=by
 unfold fewTo
 rw [List.take_length,List.all_eq_false]
 exact ⟨x,List.mem_of_getElem? h,fun hd=>hx (of_decide_eq_true hd)⟩
noncomputable def zqI:=fam (fun i : List GL09Step=>[V.sl 2 12 (GL09Step.row i)]) (fun _=>[]) (fun _=>True) (fun i=>⟨.bool (fewL9 i),[]⟩)
@[simp] theorem few9Sp_eq {l : List GL09Step}  : zqI ([V.sl 2 12 (GL09Step.row l)]) ([]) = some (⟨.bool (fewL9 l),[]⟩) :=
 zag (by intro a b h h' <;> simp at h h' <;> simp_all) l trivial
def zqJ (l : List GL09Step) (i : Nat) : St:=mkSt [(0,.sl 2 12 (GL09Step.row l)),(3,.int .i64 i)] [] 0
set_option maxHeartbeats 4000000 in
theorem zul : Lift.Spec Tryz.prog 17 zqI:=by
 refine zaj (C:=C0) zac C0_ok follows Tryz.func17 (by kernel_rfl) rfl (by kernel_rfl) rfl ?_
 rintro l _
 try simp only at _
 refine ⟨by simp,?_⟩
 intro r hr
 by_cases hl : (40 : Int) < (l.length : Int)
 ·have hF : fewL9 l = false:=by unfold fewL9; rw [decide_eq_false (by omega)]; rfl
  simp [hl]
  ((repeat refine dr ?_); rw [hr]; refine zaa rfl ?_ rfl; simp [hF])
 have hF : fewL9 l = fewTo l l.length:=by unfold fewL9; rw [decide_eq_true (by omega)]; rfl
 simp [hl]
 refine zal (zqJ l) (fun i=>i ≤ l.length ∧ fewTo l i = true) (fun i=>l.length - i) 0 ?_ ⟨Nat.zero_le _,rfl⟩ ?_
 ·refine zaW id ?_ ?_ ?_ ?_ <;> simp
 ·rintro i ⟨hi,g⟩
  by_cases hik : i < l.length
  ·obtain ⟨x,hx,hx',hxm⟩:=zav hik
   have w4 : IntKind.i64.wrap ((i : Int) + 1) = (i : Int) + 1:=w64
   by_cases h8 : (8 : Int) < (x.M.Entries.length : Int)
   ·have hs:=zrW hx (by omega)
    simp [zqJ,hik,hx',GL09Step.cells,h8]
    ((repeat refine dr ?_); rw [hr]; refine zaa rfl ?_ rfl; simp [hF,hs])
   ·simp [zqJ,hik,hx',GL09Step.cells,h8]
    refine Again.mk (i + 1) ⟨hik,by rw [zrX hx,g,decide_eq_true (by omega)]; rfl⟩ (by show l.length - (i + 1) < l.length - i; omega) ?_
    refine zaW id ?_ ?_ ?_ ?_ <;> simp [w4]
  ·have e : i = l.length:=by omega
   rw [e] at g
   simp [zqJ,hik]
   ((repeat refine dr ?_); rw [hr]; refine zaa rfl ?_ rfl; simp [hF,g])
end Go.Proofs.YtcpdgbncekdicaaGreat

namespace Go.Proofs.YtcpdgbncekdicaaGreat
open Go.Lift
set_option maxRecDepth 100000
structure P5 where
 n0 : Int
 m0 : Int
 n1 : Int
 m1 : Int
 n2 : Int
 m2 : Int
 n3 : Int
 m3 : Int
 n4 : Int
 m4 : Int
def P5.nl (p : P5) : List Int:=[p.n0,p.n1,p.n2,p.n3,p.n4]
def P5.ml (p : P5) : List Int:=[p.m0,p.m1,p.m2,p.m3,p.m4]
def P5.setN (p : P5) : Nat → Int → P5
 | 0,x=>{ p with n0:=x }
 | 1,x=>{ p with n1:=x }
 | 2,x=>{ p with n2:=x }
 | 3,x=>{ p with n3:=x }
 | _,x=>{ p with n4:=x }
def P5.setM (p : P5) : Nat → Int → P5
 | 0,x=>{ p with m0:=x }
 | 1,x=>{ p with m1:=x }
 | 2,x=>{ p with m2:=x }
 | 3,x=>{ p with m3:=x }
 | _,x=>{ p with m4:=x }
def P5.nx (p : P5) (k : Nat) : Int:=p.nl.getD k 0
def P5.mx (p : P5) (k : Nat) : Int:=p.ml.getD k 0
@[simp] theorem P5.eta (p : P5) : (⟨p.n0,p.m0,p.n1,p.m1,p.n2,p.m2,p.n3,p.m3,p.n4,p.m4⟩ : P5) = p:=rfl
def drA (j : Nat) (id n role commit votes : Int) (p : P5) : AObj:=⟨69,16,[[.ptr j 0 0,.int .i64 id,.int .i64 n,.int .i64 role,.int .i64 commit,.int .i64 votes,.int .i64 p.n0,.int .i64 p.m0,.int .i64 p.n1,.int .i64 p.m1,.int .i64 p.n2,.int .i64 p.m2,.int .i64 p.n3,.int .i64 p.m3,.int .i64 p.n4,.int .i64 p.m4]],true,0,.rw⟩
@[simp] theorem drA_fold (j : Nat) (id n role commit votes a0 a1 a2 a3 a4 a5 a6 a7 a8 a9 : Int) : (⟨69,16,[[.ptr j 0 0,.int .i64 id,.int .i64 n,.int .i64 role,.int .i64 commit,.int .i64 votes,.int .i64 a0,.int .i64 a1,.int .i64 a2,.int .i64 a3,.int .i64 a4,.int .i64 a5,.int .i64 a6,.int .i64 a7,.int .i64 a8,.int .i64 a9]],true,0,.rw⟩ : AObj) = drA j id n role commit votes ⟨a0,a1,a2,a3,a4,a5,a6,a7,a8,a9⟩:=rfl
@[simp] theorem drA_inj {j j' : Nat} {a b c d e a' b' c' d' e' : Int} {p p' : P5} : drA j a b c d e p = drA j' a' b' c' d' e' p' ↔ j = j' ∧ a = a' ∧ b = b' ∧ c = c' ∧ d = d' ∧ e = e' ∧ p = p':=by
 constructor
 ·intro h
  obtain ⟨_,_,_,_,_,_,_,_,_,_⟩:=p
  obtain ⟨_,_,_,_,_,_,_,_,_,_⟩:=p'
  simp only [drA,AObj.mk.injEq,List.cons.injEq,V.int.injEq,V.ptr.injEq,true_and,and_true] at h
  obtain ⟨h0,h1,h2,h3,h4,h5,h6,h7,h8,h9,ha,hb,hc,hd,he,hf⟩:=h
  subst h0 h1 h2 h3 h4 h5 h6 h7 h8 h9 ha hb hc hd he hf
  simp
 ·rintro ⟨rfl,rfl,rfl,rfl,rfl,rfl,rfl⟩; rfl
@[simp] theorem drA_elems (j : Nat) (id n role commit votes : Int) (p : P5) : (drA j id n role commit votes p).elems = [[.ptr j 0 0,.int .i64 id,.int .i64 n,.int .i64 role,.int .i64 commit,.int .i64 votes,.int .i64 p.n0,.int .i64 p.m0,.int .i64 p.n1,.int .i64 p.m1,.int .i64 p.n2,.int .i64 p.m2,.int .i64 p.n3,.int .i64 p.m3,.int .i64 p.n4,.int .i64 p.m4]]:=rfl
@[simp] theorem drA_et (j : Nat) (id n role commit votes : Int) (p : P5) : (drA j id n role commit votes p).et = 69:=rfl
@[simp] theorem drA_es (j : Nat) (id n role commit votes : Int) (p : P5) : (drA j id n role commit votes p).es = 16:=rfl
@[simp] theorem drA_tight (j : Nat) (id n role commit votes : Int) (p : P5) : (drA j id n role commit votes p).tight = true:=rfl
@[simp] theorem drA_md (j : Nat) (id n role commit votes : Int) (p : P5) : (drA j id n role commit votes p).md = .rw:=rfl
@[simp] theorem drA_fl (j : Nat) (id n role commit votes : Int) (p : P5) : (drA j id n role commit votes p).fl = 0:=rfl
@[simp] theorem drA_ren (f : Nat → Nat) (j : Nat) (id n role commit votes : Int) (p : P5) : (drA j id n role commit votes p).ren f = drA (f j) id n role commit votes p:=rfl
@[simp] theorem drA_linked (l : List Nat) (j : Nat) (id n role commit votes : Int) (p : P5) : zbp l (drA j id n role commit votes p) = (posOf j l).isSome:=by simp [zbp,zbX,V.isTree,V.closed]
@[simp] theorem drA_within (D : Nat → Bool) (j : Nat) (id n role commit votes : Int) (p : P5) : (drA j id n role commit votes p).within D = D j:=by simp [AObj.within,V.withinC,V.within,V.isTree]
@[simp] theorem drA_scalar (j : Nat) (id n role commit votes : Int) (p : P5) : zbu (drA j id n role commit votes p) = true:=by simp [zbu,zbl]
@[simp] theorem jn_linked (l : List Nat) (J : JN) : zbp l (jnO J) = true:=by simp [zbp,zbX,V.isTree,V.closed]
@[simp] theorem all_ltn2 {p : Nat → Prop} : (∀ n,n < 2 → p n) ↔ p 0 ∧ p 1:=by
 constructor
 ·intro h; exact ⟨h 0 (by omega),h 1 (by omega)⟩
 ·rintro ⟨h0,h1⟩ n hn
  have : n = 0 ∨ n = 1:=by omega
  rcases this with rfl | rfl <;> assumption
@[simp] theorem all_ltn3 {p : Nat → Prop} : (∀ n,n < 3 → p n) ↔ p 0 ∧ p 1 ∧ p 2:=by
 constructor
 ·intro h; exact ⟨h 0 (by omega),h 1 (by omega),h 2 (by omega)⟩
 ·rintro ⟨h0,h1,h2⟩ n hn
  have : n = 0 ∨ n = 1 ∨ n = 2:=by omega
  rcases this with rfl | rfl | rfl <;> assumption
@[simp] theorem all_ltn4 {p : Nat → Prop} : (∀ n,n < 4 → p n) ↔ p 0 ∧ p 1 ∧ p 2 ∧ p 3:=by
 constructor
 ·intro h; exact ⟨h 0 (by omega),h 1 (by omega),h 2 (by omega),h 3 (by omega)⟩
 ·rintro ⟨h0,h1,h2,h3⟩ n hn
  have : n = 0 ∨ n = 1 ∨ n = 2 ∨ n = 3:=by omega
  rcases this with rfl | rfl | rfl | rfl <;> assumption
@[simp] theorem all_ltn7 {p : Nat → Prop} : (∀ n,n < 7 → p n) ↔ p 0 ∧ p 1 ∧ p 2 ∧ p 3 ∧ p 4 ∧ p 5 ∧ p 6:=by
 constructor
 ·intro h; exact ⟨h 0 (by omega),h 1 (by omega),h 2 (by omega),h 3 (by omega),h 4 (by omega),h 5 (by omega),h 6 (by omega)⟩
 ·rintro ⟨h0,h1,h2,h3,h4,h5,h6⟩ n hn
  have : n = 0 ∨ n = 1 ∨ n = 2 ∨ n = 3 ∨ n = 4 ∨ n = 5 ∨ n = 6:=by omega
  rcases this with rfl | rfl | rfl | rfl | rfl | rfl | rfl <;> assumption
@[simp] theorem all_ltn8 {p : Nat → Prop} : (∀ n,n < 8 → p n) ↔ p 0 ∧ p 1 ∧ p 2 ∧ p 3 ∧ p 4 ∧ p 5 ∧ p 6 ∧ p 7:=by
 constructor
 ·intro h; exact ⟨h 0 (by omega),h 1 (by omega),h 2 (by omega),h 3 (by omega),h 4 (by omega),h 5 (by omega),h 6 (by omega),h 7 (by omega)⟩
 ·rintro ⟨h0,h1,h2,h3,h4,h5,h6,h7⟩ n hn
  have : n = 0 ∨ n = 1 ∨ n = 2 ∨ n = 3 ∨ n = 4 ∨ n = 5 ∨ n = 6 ∨ n = 7:=by omega
  rcases this with rfl | rfl | rfl | rfl | rfl | rfl | rfl | rfl <;> assumption
@[simp] theorem all_ltn9 {p : Nat → Prop} : (∀ n,n < 9 → p n) ↔ p 0 ∧ p 1 ∧ p 2 ∧ p 3 ∧ p 4 ∧ p 5 ∧ p 6 ∧ p 7 ∧ p 8:=by
 constructor
 ·intro h; exact ⟨h 0 (by omega),h 1 (by omega),h 2 (by omega),h 3 (by omega),h 4 (by omega),h 5 (by omega),h 6 (by omega),h 7 (by omega),h 8 (by omega)⟩
 ·rintro ⟨h0,h1,h2,h3,h4,h5,h6,h7,h8⟩ n hn
  have : n = 0 ∨ n = 1 ∨ n = 2 ∨ n = 3 ∨ n = 4 ∨ n = 5 ∨ n = 6 ∨ n = 7 ∨ n = 8:=by omega
  rcases this with rfl | rfl | rfl | rfl | rfl | rfl | rfl | rfl | rfl <;> assumption
@[simp] theorem iteP_ne0 (p : Prop) [Decidable p] : ((if p then 2 else 1) = 0) = False:=by split <;> simp
@[simp] theorem iteP_le2 (p : Prop) [Decidable p] : (1 ≤ if p then 2 else 1) = True:=by split <;> simp
@[simp] theorem in_shut (l : List Int) : nameless (inO l) = true:=rfl
@[simp] theorem bo_shut (l : List Bool) : nameless (boO l) = true:=rfl
@[simp] theorem startN_mth (g : Nat → Option AObj) (f : FuncId) (a : Nat) : zbC g (.mth f a) = [a]:=rfl
structure DN where
 J : JN
 id : Int
 n : Int
 role : Int
 commit : Int
 votes : Int
 p : P5
def bitsL (v n : Int) : List Bool:=(List.range n.toNat).map fun i=>decide (v / 2 ^ i % 2 = 1)
def asR (D : DN) : RN:=⟨D.J,D.id,D.n,D.role,D.commit,bitsL D.votes D.n,D.p.nl.take D.n.toNat,D.p.ml.take D.n.toNat⟩
def difGo (log : List GLogged) : Int → List GLogged → Int
 | i,[]=>i
 | i,e :: es=>if (logAt log i).Term ≠ e.Term then i else difGo log (i + 1) es
end Go.Proofs.YtcpdgbncekdicaaGreat

namespace Go.Proofs.YtcpdgbncekdicaaGreat
open Go.Lift
set_option maxRecDepth 100000
noncomputable def CR1:=mkC [(65,zej),(98,zfo),(105,ziv),(66,ziy),(62,zhq),(61,zhU),(75,zbi)]
theorem zkM : zai Tryz.prog CR1:=zat (all_cons zkE (all_cons zmi (all_cons zpm (all_cons zpp (all_cons zla (all_cons zjQ (all_cons zcj all_nil)))))))
@[simp] theorem CR1_1 : CR1 65 = zej:=rfl
@[simp] theorem CR1_2 : CR1 98 = zfo:=rfl
@[simp] theorem CR1_3 : CR1 105 = ziv:=rfl
@[simp] theorem CR1_4 : CR1 66 = ziy:=rfl
@[simp] theorem CR1_5 : CR1 62 = zhq:=rfl
@[simp] theorem CR1_6 : CR1 61 = zhU:=rfl
@[simp] theorem CR1_7 : CR1 75 = zbi:=rfl
noncomputable def zeX:=fam (fun i : JN × Int × Int=>[V.agg [V.ptr 0 0 0],.int .i64 i.2.1,.int .i64 i.2.2]) (fun i=>[jnO i.1]) (fun i=>(i.1.b.length ≤ 1000000000) ∧ (In64 i.2.1) ∧ (In64 i.2.2)) (fun i=>⟨.tup [],[jnO (syncJ (zaq i.1 i.2.1 i.2.2))]⟩)
@[simp] theorem mmSetSp_eq {J : JN} {t v : Int} (h1 : J.b.length ≤ 1000000000) (h2 : In64 t) (h3 : In64 v) : zeX ([V.agg [V.ptr 0 0 0],.int .i64 t,.int .i64 v]) ([jnO J]) = some (⟨.tup [],[jnO (syncJ (zaq J t v))]⟩) :=
 zag (by rintro ⟨a0,a1,a2⟩ ⟨b0,b1,b2⟩ h h' <;> simp at h h' <;> simp_all) (J,t,v) ⟨h1,h2,h3⟩
theorem zhu : Lift.Spec Tryz.prog 33 zeX:=by
 refine zad [] (C:=CR1) zac zkM follows Tryz.func33 (by kernel_rfl) rfl (by kernel_rfl) rfl ?_
 rintro ⟨J,t,v⟩ ⟨h1,h2,h3⟩
 try simp only at h1 h2 h3
 refine ⟨by simp,?_⟩
 intro r hr
 have h4 : (zaq J t v).b.length ≤ 4611686018427387904:=by have:=zcf J t v; omega
 simp [h1,h2,h3,h4]
 rw [hr]
 refine retE [] [] [] [] [.inl 0] rfl ?_
 simp
noncomputable def zmq:=fam (fun i : JN × Int × GEntry=>[V.agg [V.ptr 0 0 0],.int .i64 i.2.1,zaB i.2.2]) (fun i=>[jnO i.1]) (fun i=>(i.1.b.length ≤ 1000000000) ∧ (i.1.log.length ≤ 1000000000) ∧ (In64 i.2.1) ∧ (GEntry.ok i.2.2)) (fun i=>⟨.int .i64 (adE i.1 i.2.1 i.2.2),[jnO (syncJ (zaw i.1 i.2.1 i.2.2))]⟩)
@[simp] theorem mmAddSp_eq {J : JN} {t : Int} {e : GEntry} (h1 : J.b.length ≤ 1000000000) (h2 : J.log.length ≤ 1000000000) (h3 : In64 t) (h4 : GEntry.ok e) : zmq ([V.agg [V.ptr 0 0 0],.int .i64 t,zaB e]) ([jnO J]) = some (⟨.int .i64 (adE J t e),[jnO (syncJ (zaw J t e))]⟩) :=
 zag (by rintro ⟨a0,a1,a2⟩ ⟨b0,b1,b2⟩ h h' <;> simp at h h' <;> simp_all) (J,t,e) ⟨h1,h2,h3,h4⟩
theorem zso : Lift.Spec Tryz.prog 63 zmq:=by
 refine zad [] (C:=CR1) zac zkM follows Tryz.func63 (by kernel_rfl) rfl (by kernel_rfl) rfl ?_
 rintro ⟨J,t,e⟩ ⟨h1,h2,h3,h4⟩
 try simp only at h1 h2 h3 h4
 refine ⟨by simp,?_⟩
 intro r hr
 have h5 : (zaw J t e).b.length ≤ 4611686018427387904:=by have:=zb3 J t e; omega
 simp [h1,h2,h3,h4,h5,GEntry.cells,zaE]
 rw [hr]
 refine retE [] [] [] [] [.inl 0] rfl ?_
 simp
noncomputable def zc2:=fam (fun _ : JN=>[V.agg [V.ptr 0 0 0]]) (fun i=>[jnO i]) (fun i=>(i.log.length ≤ 1000000000)) (fun i=>⟨.int .i64 (lastT i.log),[jnO i]⟩)
@[simp] theorem mmLastSp_eq {J : JN} (h1 : J.log.length ≤ 1000000000) : zc2 ([V.agg [V.ptr 0 0 0]]) ([jnO J]) = some (⟨.int .i64 (lastT J.log),[jnO J]⟩) :=
 zag (by intro a b h h' <;> simp at h h' <;> simp_all) J h1
theorem zeo : Lift.Spec Tryz.prog 70 zc2:=by
 refine zad [] (C:=CR1) zac zkM follows Tryz.func70 (by kernel_rfl) rfl (by kernel_rfl) rfl ?_
 rintro J h1
 try simp only at h1
 refine ⟨by simp,?_⟩
 intro r hr
 have w1 : IntKind.i64.wrap ((J.log.length : Int) - 1) = (J.log.length : Int) - 1:=w64
 simp [w1]
 (repeat refine dr ?_)
 rw [hr]
 refine retE [] [] [] [] [.inl 0] rfl ?_
 simp [lastT]
noncomputable def zmr:=fam (fun i : JN × Int × (List GLogged)=>[V.agg [V.ptr 0 0 0],.int .i64 i.2.1,.sl 2 10 (GLogged.row i.2.2)]) (fun i=>[jnO i.1]) (fun i=>(0 ≤ i.2.1) ∧ (i.2.1 ≤ 1000000000) ∧ (i.2.2.length ≤ 1000000000)) (fun i=>⟨.int .i64 (difGo i.1.log i.2.1 i.2.2),[jnO i.1]⟩)
@[simp] theorem mmDifSp_eq {J : JN} {k : Int} {es : List GLogged} (h1 : 0 ≤ k) (h2 : k ≤ 1000000000) (h3 : es.length ≤ 1000000000) : zmr ([V.agg [V.ptr 0 0 0],.int .i64 k,.sl 2 10 (GLogged.row es)]) ([jnO J]) = some (⟨.int .i64 (difGo J.log k es),[jnO J]⟩) :=
 zag (by rintro ⟨a0,a1,a2⟩ ⟨b0,b1,b2⟩ h h' <;> simp at h h' <;> simp_all) (J,k,es) ⟨h1,h2,h3⟩
def mdSt (J : JN) (k : Int) (es : List GLogged) (i : Nat) : St:=mkSt [(1,.int .i64 (k + i)),(3,.ptr 1 0 0),(9,.sl 2 10 (GLogged.row es)),(10,.int .i64 es.length),(11,.int .i64 i)] [(0,jnO J),(1,⟨64,1,[[.ptr 0 0 0]],true,0,.rw⟩)] 2
theorem zsp : Lift.Spec Tryz.prog 76 zmr:=by
 refine zad [] (C:=CR1) zac zkM follows Tryz.func76 (by kernel_rfl) rfl (by kernel_rfl) rfl ?_
 rintro ⟨J,k,es⟩ ⟨h1,h2,h3⟩
 try simp only at h1 h2 h3
 refine ⟨by simp,?_⟩
 intro r hr
 simp
 refine zal (mdSt J k es) (fun i=>i ≤ es.length ∧ difGo J.log (k + i) (es.drop i) = difGo J.log k es) (fun i=>es.length - i) 0 ?_ ⟨Nat.zero_le _,by simp⟩ ?_
 ·refine zak [.inl 0,.inr 3] ?_ ?_ ?_ ?_ <;> simp
 ·rintro i ⟨hi,g⟩
  have w4 : IntKind.i64.wrap ((i : Int) + 1) = (i : Int) + 1:=w64
  have w5 : IntKind.i64.wrap (k + ((i : Int) + 1)) = k + ((i : Int) + 1):=w64
  by_cases hik : i < es.length
  ·obtain ⟨x,hx,hx',hxm⟩:=zav hik
   have hdrop : es.drop i = x :: es.drop (i + 1):=by rw [← hx']; exact (List.drop_eq_getElem_cons hik)
   by_cases e1 : (logAt J.log (k + i)).Term = x.Term
   ·have g2 : difGo J.log (k + ((i + 1 : Nat) : Int)) (es.drop (i + 1)) = difGo J.log k es:=by
     rw [← g,hdrop,difGo,if_neg (by simpa using e1)]; congr 1; omega
    simp [mdSt,hik,hx',GLogged.cells,eq_true e1]
    (repeat refine dr ?_)
    refine Again.mk (i + 1) ⟨hik,g2⟩ (by show es.length - (i + 1) < es.length - i; omega) ?_
    refine zak [.inl 0,.inl 1] ?_ ?_ ?_ ?_ <;> simp [w4,w5,Int.add_assoc]
   ·have g2 : difGo J.log k es = k + i:=by rw [← g,hdrop,difGo,if_pos e1]
    simp [mdSt,hik,hx',GLogged.cells,e1]
    (repeat refine dr ?_)
    rw [hr]
    refine retE [] [] [] [] [.inl 0] rfl ?_
    simp [g2]
  ·have e : i = es.length:=by omega
   subst e
   have g2 : difGo J.log k es = k + es.length:=by rw [← g]; simp [difGo]
   simp [mdSt]
   rw [hr]
   refine retE [] [] [] [] [.inl 0] rfl ?_
   simp [g2]
noncomputable def zc1:=fam (fun i : JN × Nat=>[V.agg [V.ptr 0 0 0],.int .i64 i.2]) (fun i=>[jnO i.1]) (fun i=>(i.1.log.length ≤ 1000000000) ∧ (i.2 ≤ 1000000000)) (fun i=>⟨.sl 2 10 (GLogged.row (i.1.log.drop i.2)),[jnO i.1]⟩)
@[simp] theorem zjX {J : JN} {k : Nat} (h1 : J.log.length ≤ 1000000000) (h2 : k ≤ 1000000000) : zc1 ([V.agg [V.ptr 0 0 0],.int .i64 k]) ([jnO J]) = some (⟨.sl 2 10 (GLogged.row (J.log.drop k)),[jnO J]⟩) :=
 zag (by rintro ⟨a0,a1⟩ ⟨b0,b1⟩ h h' <;> simp at h h'; subst h'; rw [show a1 = b1 by omega]) (J,k) ⟨h1,h2⟩
def mfSt (J : JN) (k : Nat) (i : Nat) : St:=mkSt [(1,.int .i64 (k + i : Nat)),(2,.ptr 1 0 0),(5,.own 2 0 i)] [(0,jnO J),(1,⟨64,1,[[.ptr 0 0 0]],true,0,.rw⟩),(2,lgO ((J.log.drop k).take i))] 3
theorem zen : Lift.Spec Tryz.prog 45 zc1:=by
 refine zad [] (C:=CR1) zac zkM follows Tryz.func45 (by kernel_rfl) rfl (by kernel_rfl) rfl ?_
 rintro ⟨J,k⟩ ⟨h1,h2⟩
 try simp only at h1 h2
 refine ⟨by simp,?_⟩
 intro r hr
 simp
 refine zal (mfSt J k) (fun i=>i ≤ (J.log.drop k).length) (fun i=>(J.log.drop k).length - i) 0 ?_ (Nat.zero_le _) ?_
 ·refine (zcw 5 500 (sz:=1) (lgO []) ?_ ?_ rfl).trans (zak [.inl 0,.inr 2,.inl 500] ?_ ?_ ?_ ?_) <;> simp [lgO]
 ·intro i hi
  have hdl : (J.log.drop k).length = J.log.length - k:=List.length_drop
  have w4 : IntKind.i64.wrap ((k : Int) + ((i : Int) + 1)) = (k : Int) + ((i : Int) + 1):=w64
  by_cases hik : k + i < J.log.length
  ·have hik' : (k : Int) + (i : Int) < (J.log.length : Int):=by omega
   obtain ⟨x,hx,hx',hxm⟩:=zav hik
   have hat : logAt J.log ((k : Int) + (i : Int)) = x:=by have:=zb1 hx; rw [← this]; congr 1
   have hhas : hasAt J.log ((k : Int) + (i : Int)) = true:=by simp [hasAt]; omega
   have u1 : ((i : Int) + 1) * 80 ≤ 140737488355328:=by omega
   have u2 : (i : Int) + 1 ≤ 140737488355328:=by omega
   have hmn : min i (J.log.length - k) = i:=by omega
   have htk : (J.log.drop k).take (i + 1) = (J.log.drop k).take i ++ [x]:=by rw [List.take_add_one,List.getElem?_drop,hx]; rfl
   simp [mfSt,hik',hat,hhas,lgO,u1,u2,hmn,GLogged.cells]
   have hpush : GLogged.row ((J.log.drop k).take (i + 1)) = GLogged.row ((J.log.drop k).take i) ++ [GLogged.cells x]:=by rw [htk]; simp [GLogged.row]
   simp only [GLogged.cells] at hpush
   refine Again.mk (i + 1) (by first | omega | (rw [hdl]; omega)) (by first | omega | (simp only [hdl]; omega)) ?_
   refine zak [.inl 0,.inl 1,.inr 5] ?_ ?_ ?_ ?_ <;> simp [w4,hpush,lgO,Int.add_assoc]
  ·have hik' : ¬ (k : Int) + (i : Int) < (J.log.length : Int):=by omega
   have e : i = (J.log.drop k).length:=by omega
   simp [mfSt,hik',lgO]
   rw [hr]
   refine retE [.inr 4] [] [] [] [.inl 0] rfl ?_
   simp [e]
end Go.Proofs.YtcpdgbncekdicaaGreat

namespace Go.Proofs.YtcpdgbncekdicaaGreat
open Go.Lift
set_option maxRecDepth 100000
noncomputable def CR2:=mkC [(43,zfq),(44,zfr),(62,zhq),(61,zhU),(75,zbi),(45,zc1),(70,zc2)]
theorem ziU : zai Tryz.prog CR2:=zat (all_cons zjT (all_cons zjU (all_cons zla (all_cons zjQ (all_cons zcj (all_cons zen (all_cons zeo all_nil)))))))
@[simp] theorem CR2_1 : CR2 43 = zfq:=rfl
@[simp] theorem CR2_2 : CR2 44 = zfr:=rfl
@[simp] theorem CR2_3 : CR2 62 = zhq:=rfl
@[simp] theorem CR2_4 : CR2 61 = zhU:=rfl
@[simp] theorem CR2_5 : CR2 75 = zbi:=rfl
@[simp] theorem CR2_6 : CR2 45 = zc1:=rfl
@[simp] theorem CR2_7 : CR2 70 = zc2:=rfl
noncomputable def zfj:=fam (fun _ : JN × Int × Int × Int × Int × Int × P5=>[V.ptr 0 0 0]) (fun i=>[drA 1 i.2.1 i.2.2.1 i.2.2.2.1 i.2.2.2.2.1 i.2.2.2.2.2.1 i.2.2.2.2.2.2,jnO i.1]) (fun _=>True) (fun i=>⟨.int .i64 i.2.2.2.1,[drA 1 i.2.1 i.2.2.1 i.2.2.2.1 i.2.2.2.2.1 i.2.2.2.2.2.1 i.2.2.2.2.2.2,jnO i.1]⟩)
@[simp] theorem drRoleSp_eq {J : JN} {id n role commit votes : Int} {p : P5}  : zfj ([V.ptr 0 0 0]) ([drA 1 id n role commit votes p,jnO J]) = some (⟨.int .i64 role,[drA 1 id n role commit votes p,jnO J]⟩) :=
 zag (by rintro ⟨a0,a1,a2,a3,a4,a5,a6⟩ ⟨b0,b1,b2,b3,b4,b5,b6⟩ h h' <;> simp at h h' <;> simp_all) (J,id,n,role,commit,votes,p) trivial
theorem zju : Lift.Spec Tryz.prog 15 zfj:=by
 refine zad [] (C:=CR2) zac ziU follows Tryz.func15 (by kernel_rfl) rfl (by kernel_rfl) rfl ?_
 rintro ⟨J,id,n,role,commit,votes,p⟩ _
 refine ⟨by simp,?_⟩
 intro r hr
 simp
 rw [hr]
 refine retE [] [] [] [] [.inl 0,.inl 1] rfl ?_
 simp
noncomputable def zdm:=fam (fun _ : JN × Int × Int × Int × Int × Int × P5=>[V.ptr 0 0 0]) (fun i=>[drA 1 i.2.1 i.2.2.1 i.2.2.2.1 i.2.2.2.2.1 i.2.2.2.2.2.1 i.2.2.2.2.2.2,jnO i.1]) (fun _=>True) (fun i=>⟨.int .i64 i.2.2.2.2.1,[drA 1 i.2.1 i.2.2.1 i.2.2.2.1 i.2.2.2.2.1 i.2.2.2.2.2.1 i.2.2.2.2.2.2,jnO i.1]⟩)
@[simp] theorem drCommitSp_eq {J : JN} {id n role commit votes : Int} {p : P5}  : zdm ([V.ptr 0 0 0]) ([drA 1 id n role commit votes p,jnO J]) = some (⟨.int .i64 commit,[drA 1 id n role commit votes p,jnO J]⟩) :=
 zag (by rintro ⟨a0,a1,a2,a3,a4,a5,a6⟩ ⟨b0,b1,b2,b3,b4,b5,b6⟩ h h' <;> simp at h h' <;> simp_all) (J,id,n,role,commit,votes,p) trivial
theorem zgC : Lift.Spec Tryz.prog 20 zdm:=by
 refine zad [] (C:=CR2) zac ziU follows Tryz.func20 (by kernel_rfl) rfl (by kernel_rfl) rfl ?_
 rintro ⟨J,id,n,role,commit,votes,p⟩ _
 refine ⟨by simp,?_⟩
 intro r hr
 simp
 rw [hr]
 refine retE [] [] [] [] [.inl 0,.inl 1] rfl ?_
 simp
noncomputable def za7:=fam (fun _ : JN × Int × Int × Int × Int × Int × P5=>[V.ptr 0 0 0]) (fun i=>[drA 1 i.2.1 i.2.2.1 i.2.2.2.1 i.2.2.2.2.1 i.2.2.2.2.2.1 i.2.2.2.2.2.2,jnO i.1]) (fun _=>True) (fun i=>⟨.int .i64 i.1.term,[drA 1 i.2.1 i.2.2.1 i.2.2.2.1 i.2.2.2.2.1 i.2.2.2.2.2.1 i.2.2.2.2.2.2,jnO i.1]⟩)
@[simp] theorem drTermSp_eq {J : JN} {id n role commit votes : Int} {p : P5}  : za7 ([V.ptr 0 0 0]) ([drA 1 id n role commit votes p,jnO J]) = some (⟨.int .i64 J.term,[drA 1 id n role commit votes p,jnO J]⟩) :=
 zag (by rintro ⟨a0,a1,a2,a3,a4,a5,a6⟩ ⟨b0,b1,b2,b3,b4,b5,b6⟩ h h' <;> simp at h h' <;> simp_all) (J,id,n,role,commit,votes,p) trivial
theorem zbn : Lift.Spec Tryz.prog 18 za7:=by
 refine zad [] (C:=CR2) zac ziU follows Tryz.func18 (by kernel_rfl) rfl (by kernel_rfl) rfl ?_
 rintro ⟨J,id,n,role,commit,votes,p⟩ _
 refine ⟨by simp,?_⟩
 intro r hr
 simp
 rw [hr]
 refine retE [] [] [] [] [.inl 0,.inl 1] rfl ?_
 simp
noncomputable def zc0:=fam (fun _ : JN × Int × Int × Int × Int × Int × P5=>[V.ptr 0 0 0]) (fun i=>[drA 1 i.2.1 i.2.2.1 i.2.2.2.1 i.2.2.2.2.1 i.2.2.2.2.2.1 i.2.2.2.2.2.2,jnO i.1]) (fun _=>True) (fun i=>⟨.int .i64 i.1.vote,[drA 1 i.2.1 i.2.2.1 i.2.2.2.1 i.2.2.2.2.1 i.2.2.2.2.2.1 i.2.2.2.2.2.2,jnO i.1]⟩)
@[simp] theorem drVoteSp_eq {J : JN} {id n role commit votes : Int} {p : P5}  : zc0 ([V.ptr 0 0 0]) ([drA 1 id n role commit votes p,jnO J]) = some (⟨.int .i64 J.vote,[drA 1 id n role commit votes p,jnO J]⟩) :=
 zag (by rintro ⟨a0,a1,a2,a3,a4,a5,a6⟩ ⟨b0,b1,b2,b3,b4,b5,b6⟩ h h' <;> simp at h h' <;> simp_all) (J,id,n,role,commit,votes,p) trivial
theorem zef : Lift.Spec Tryz.prog 19 zc0:=by
 refine zad [] (C:=CR2) zac ziU follows Tryz.func19 (by kernel_rfl) rfl (by kernel_rfl) rfl ?_
 rintro ⟨J,id,n,role,commit,votes,p⟩ _
 refine ⟨by simp,?_⟩
 intro r hr
 simp
 rw [hr]
 refine retE [] [] [] [] [.inl 0,.inl 1] rfl ?_
 simp
noncomputable def zb8:=fam (fun _ : JN × Int × Int × Int × Int × Int × P5=>[V.ptr 0 0 0]) (fun i=>[drA 1 i.2.1 i.2.2.1 i.2.2.2.1 i.2.2.2.2.1 i.2.2.2.2.2.1 i.2.2.2.2.2.2,jnO i.1]) (fun _=>True) (fun i=>⟨.int .i64 i.1.log.length,[drA 1 i.2.1 i.2.2.1 i.2.2.2.1 i.2.2.2.2.1 i.2.2.2.2.2.1 i.2.2.2.2.2.2,jnO i.1]⟩)
@[simp] theorem drLenSp_eq {J : JN} {id n role commit votes : Int} {p : P5}  : zb8 ([V.ptr 0 0 0]) ([drA 1 id n role commit votes p,jnO J]) = some (⟨.int .i64 J.log.length,[drA 1 id n role commit votes p,jnO J]⟩) :=
 zag (by rintro ⟨a0,a1,a2,a3,a4,a5,a6⟩ ⟨b0,b1,b2,b3,b4,b5,b6⟩ h h' <;> simp at h h' <;> simp_all) (J,id,n,role,commit,votes,p) trivial
theorem zcB : Lift.Spec Tryz.prog 31 zb8:=by
 refine zad [] (C:=CR2) zac ziU follows Tryz.func31 (by kernel_rfl) rfl (by kernel_rfl) rfl ?_
 rintro ⟨J,id,n,role,commit,votes,p⟩ _
 refine ⟨by simp,?_⟩
 intro r hr
 simp
 rw [hr]
 refine retE [] [] [] [] [.inl 0,.inl 1] rfl ?_
 simp
noncomputable def zqD:=fam (fun i : JN × Int × Int × Int × Int × Int × P5 × ( Int)=>[V.ptr 0 0 0,.int .i64 i.2.2.2.2.2.2.2]) (fun i=>[drA 1 i.2.1 i.2.2.1 i.2.2.2.1 i.2.2.2.2.1 i.2.2.2.2.2.1 i.2.2.2.2.2.2.1,jnO i.1]) (fun _=>True) (fun i=>⟨.tup [zaM (logAt i.1.log i.2.2.2.2.2.2.2),.bool (hasAt i.1.log i.2.2.2.2.2.2.2)],[drA 1 i.2.1 i.2.2.1 i.2.2.2.1 i.2.2.2.2.1 i.2.2.2.2.2.1 i.2.2.2.2.2.2.1,jnO i.1]⟩)
@[simp] theorem drAtSp_eq {J : JN} {id n role commit votes : Int} {p : P5} {i :  Int}  : zqD ([V.ptr 0 0 0,.int .i64 i]) ([drA 1 id n role commit votes p,jnO J]) = some (⟨.tup [zaM (logAt J.log i),.bool (hasAt J.log i)],[drA 1 id n role commit votes p,jnO J]⟩) :=
 zag (by rintro ⟨a0,a1,a2,a3,a4,a5,a6,a7⟩ ⟨b0,b1,b2,b3,b4,b5,b6,b7⟩ h h' <;> simp at h h' <;> simp_all) (J,id,n,role,commit,votes,p,i) trivial
theorem zuh : Lift.Spec Tryz.prog 29 zqD:=by
 refine zad [] (C:=CR2) zac ziU follows Tryz.func29 (by kernel_rfl) rfl (by kernel_rfl) rfl ?_
 rintro ⟨J,id,n,role,commit,votes,p,i⟩ _
 refine ⟨by simp,?_⟩
 intro r hr
 simp [GLogged.cells,zdP]
 rw [hr]
 refine retE [] [] [] [] [.inl 0,.inl 1] rfl ?_
 simp [GLogged.cells,zaM]
noncomputable def zlV:=fam (fun _ : JN × Int × Int × Int × Int × Int × P5=>[V.ptr 0 0 0]) (fun i=>[drA 1 i.2.1 i.2.2.1 i.2.2.2.1 i.2.2.2.2.1 i.2.2.2.2.2.1 i.2.2.2.2.2.2,jnO i.1]) (fun i=>(i.1.log.length ≤ 1000000000)) (fun i=>⟨.sl 2 10 (GLogged.row i.1.log),[drA 1 i.2.1 i.2.2.1 i.2.2.2.1 i.2.2.2.2.1 i.2.2.2.2.2.1 i.2.2.2.2.2.2,jnO i.1]⟩)
@[simp] theorem drLogSp_eq {J : JN} {id n role commit votes : Int} {p : P5} (h1 : J.log.length ≤ 1000000000) : zlV ([V.ptr 0 0 0]) ([drA 1 id n role commit votes p,jnO J]) = some (⟨.sl 2 10 (GLogged.row J.log),[drA 1 id n role commit votes p,jnO J]⟩) :=
 zag (by rintro ⟨a0,a1,a2,a3,a4,a5,a6⟩ ⟨b0,b1,b2,b3,b4,b5,b6⟩ h h' <;> simp at h h' <;> simp_all) (J,id,n,role,commit,votes,p) h1
theorem zrP : Lift.Spec Tryz.prog 21 zlV:=by
 refine zad [] (C:=CR2) zac ziU follows Tryz.func21 (by kernel_rfl) rfl (by kernel_rfl) rfl ?_
 rintro ⟨J,id,n,role,commit,votes,p⟩ h1
 try simp only at h1
 refine ⟨by simp,?_⟩
 intro r hr
 have e0:=zjX (J:=J) (k:=0) h1 (by omega)
 simp at e0
 simp [e0]
 rw [hr]
 refine retE [] [] [] [] [.inl 0,.inl 1] rfl ?_
 simp
noncomputable def CR3:=mkC [(18,za7),(19,zc0),(31,zb8),(75,zbi),(45,zc1),(70,zc2)]
theorem zyg : zai Tryz.prog CR3:=zat (all_cons zbn (all_cons zef (all_cons zcB (all_cons zcj (all_cons zen (all_cons zeo all_nil))))))
@[simp] theorem CR3_1 : CR3 18 = za7:=rfl
@[simp] theorem CR3_2 : CR3 19 = zc0:=rfl
@[simp] theorem CR3_3 : CR3 31 = zb8:=rfl
@[simp] theorem CR3_4 : CR3 75 = zbi:=rfl
@[simp] theorem CR3_5 : CR3 45 = zc1:=rfl
@[simp] theorem CR3_6 : CR3 70 = zc2:=rfl
noncomputable def zdn:=fam (fun _ : JN × Int × Int × Int × Int × Int × P5=>[V.ptr 0 0 0]) (fun i=>[drA 1 i.2.1 i.2.2.1 i.2.2.2.1 i.2.2.2.2.1 i.2.2.2.2.2.1 i.2.2.2.2.2.2,jnO i.1]) (fun i=>(0 ≤ i.2.2.1) ∧ (i.2.2.1 ≤ 5)) (fun i=>⟨.sl 2 1 (zaF (othL i.2.1 i.2.2.1)),[drA 1 i.2.1 i.2.2.1 i.2.2.2.1 i.2.2.2.2.1 i.2.2.2.2.2.1 i.2.2.2.2.2.2,jnO i.1]⟩)
@[simp] theorem drOthersSp_eq {J : JN} {id n role commit votes : Int} {p : P5} (h1 : 0 ≤ n) (h2 : n ≤ 5) : zdn ([V.ptr 0 0 0]) ([drA 1 id n role commit votes p,jnO J]) = some (⟨.sl 2 1 (zaF (othL id n)),[drA 1 id n role commit votes p,jnO J]⟩) :=
 zag (by rintro ⟨a0,a1,a2,a3,a4,a5,a6⟩ ⟨b0,b1,b2,b3,b4,b5,b6⟩ h h' <;> simp at h h' <;> simp_all) (J,id,n,role,commit,votes,p) ⟨h1,h2⟩
def dotSt (J : JN) (id n role commit votes : Int) (p : P5) (i : Nat) : St:=mkSt [(0,.ptr 0 0 0),(3,.own 2 0 (idxTo (oeB id) i).length),(8,.int .i64 n),(9,.int .i64 i)] [(0,drA 1 id n role commit votes p),(1,jnO J),(2,inO (idxTo (oeB id) i))] 3
set_option maxHeartbeats 4000000 in
theorem zgE : Lift.Spec Tryz.prog 68 zdn:=by
 refine zad [] (C:=CR3) zac zyg follows Tryz.func68 (by kernel_rfl) rfl (by kernel_rfl) rfl ?_
 rintro ⟨J,id,n,role,commit,votes,p⟩ ⟨h1,h2⟩
 try simp only at h1 h2
 refine ⟨by simp,?_⟩
 intro r hr
 simp
 refine zal (dotSt J id n role commit votes p) (fun i=>i ≤ n.toNat) (fun i=>n.toNat - i) 0 ?_ (Nat.zero_le _) ?_
 ·refine (zcw 3 500 (sz:=1) (inO []) ?_ ?_ rfl).trans (zak [.inl 0,.inl 1,.inl 500] ?_ ?_ ?_ ?_) <;> simp [zk7]
 ·intro i hi
  obtain ⟨q1,q2⟩:=zu4 (zjO (oeB id) i) (by omega)
  have w4 : IntKind.i64.wrap ((i : Int) + 1) = (i : Int) + 1:=w64
  by_cases hik : (i : Int) < n
  ·by_cases he : (i : Int) = id
   ·have hp : oeB id i = false:=by simp [oeB,he]
    simp [dotSt,hik,eq_true he]
    refine Again.mk (i + 1) (by exact (by omega : i + 1 ≤ n.toNat)) (by show n.toNat - (i + 1) < n.toNat - i; omega) ?_
    refine zak [.inl 0,.inl 1,.inr 3] ?_ ?_ ?_ ?_ <;> simp [w4,zux hp]
   ·have hp : oeB id i = true:=by simp [oeB,he]
    simp [dotSt,hik,he,q1,q2]
    refine Again.mk (i + 1) (by exact (by omega : i + 1 ≤ n.toNat)) (by show n.toNat - (i + 1) < n.toNat - i; omega) ?_
    refine zak [.inl 0,.inl 1,.inr 3] ?_ ?_ ?_ ?_ <;> simp [w4,zuz hp,← zf9]
  ·have e : i = n.toNat:=by omega
   simp [dotSt,hik]
   rw [hr]
   refine retE [.inr 2] [] [] [] [.inl 0,.inl 1] rfl ?_
   simp [zuY,← e]
noncomputable def zhk:=fam (fun i : JN × Int × Int × Int × Int × Int × P5 × ( Int) × ( Int)=>[V.ptr 0 0 0,.int .i64 i.2.2.2.2.2.2.2.1,.int .i64 i.2.2.2.2.2.2.2.2]) (fun i=>[drA 1 i.2.1 i.2.2.1 i.2.2.2.1 i.2.2.2.2.1 i.2.2.2.2.2.1 i.2.2.2.2.2.2.1,jnO i.1]) (fun _=>True) (fun i=>⟨zam ⟨i.2.2.2.2.2.2.2.1,i.2.1,i.2.2.2.2.2.2.2.2,i.1.term,0,0,0,false,[]⟩,[drA 1 i.2.1 i.2.2.1 i.2.2.2.1 i.2.2.2.2.1 i.2.2.2.2.2.1 i.2.2.2.2.2.2.1,jnO i.1]⟩)
@[simp] theorem drMsgSp_eq {J : JN} {id n role commit votes : Int} {p : P5} {k to :  Int}  : zhk ([V.ptr 0 0 0,.int .i64 k,.int .i64 to]) ([drA 1 id n role commit votes p,jnO J]) = some (⟨zam ⟨k,id,to,J.term,0,0,0,false,[]⟩,[drA 1 id n role commit votes p,jnO J]⟩) :=
 zag (by rintro ⟨a0,a1,a2,a3,a4,a5,a6,a7,a8⟩ ⟨b0,b1,b2,b3,b4,b5,b6,b7,b8⟩ h h' <;> simp at h h' <;> simp_all) (J,id,n,role,commit,votes,p,k,to) trivial
theorem zk1 : Lift.Spec Tryz.prog 69 zhk:=by
 refine zad [] (C:=CR3) zac zyg follows Tryz.func69 (by kernel_rfl) rfl (by kernel_rfl) rfl ?_
 rintro ⟨J,id,n,role,commit,votes,p,k,to⟩ _
 refine ⟨by simp,?_⟩
 intro r hr
 simp
 (repeat refine dr ?_)
 rw [hr]
 refine Ret.weak (retE [.inr 6] [] [] [] [.inl 0,.inl 1] rfl ?_) (zbP _ (.inr 6) 10)
 simp [GMessage.cells,zam,GLogged.row]
noncomputable def CR4:=mkC [(18,za7),(19,zc0),(31,zb8),(69,zhk),(75,zbi),(45,zc1),(70,zc2)]
theorem ztB : zai Tryz.prog CR4:=zat (all_cons zbn (all_cons zef (all_cons zcB (all_cons zk1 (all_cons zcj (all_cons zen (all_cons zeo all_nil)))))))
@[simp] theorem CR4_1 : CR4 18 = za7:=rfl
@[simp] theorem CR4_2 : CR4 19 = zc0:=rfl
@[simp] theorem CR4_3 : CR4 31 = zb8:=rfl
@[simp] theorem CR4_4 : CR4 69 = zhk:=rfl
@[simp] theorem CR4_5 : CR4 75 = zbi:=rfl
@[simp] theorem CR4_6 : CR4 45 = zc1:=rfl
@[simp] theorem CR4_7 : CR4 70 = zc2:=rfl
noncomputable def zlU:=fam (fun i : JN × Int × Int × Int × Int × Int × P5 × ( Int)=>[V.ptr 0 0 0,.int .i64 i.2.2.2.2.2.2.2]) (fun i=>[drA 1 i.2.1 i.2.2.1 i.2.2.2.1 i.2.2.2.2.1 i.2.2.2.2.2.1 i.2.2.2.2.2.2.1,jnO i.1]) (fun i=>(i.1.log.length ≤ 1000000000)) (fun i=>⟨zam ⟨1,i.2.1,i.2.2.2.2.2.2.2,i.1.term,i.1.log.length,lastT i.1.log,0,false,[]⟩,[drA 1 i.2.1 i.2.2.1 i.2.2.2.1 i.2.2.2.2.1 i.2.2.2.2.2.1 i.2.2.2.2.2.2.1,jnO i.1]⟩)
@[simp] theorem zrN {J : JN} {id n role commit votes : Int} {p : P5} {to :  Int} (h1 : J.log.length ≤ 1000000000) : zlU ([V.ptr 0 0 0,.int .i64 to]) ([drA 1 id n role commit votes p,jnO J]) = some (⟨zam ⟨1,id,to,J.term,J.log.length,lastT J.log,0,false,[]⟩,[drA 1 id n role commit votes p,jnO J]⟩) :=
 zag (by rintro ⟨a0,a1,a2,a3,a4,a5,a6,a7⟩ ⟨b0,b1,b2,b3,b4,b5,b6,b7⟩ h h' <;> simp at h h' <;> simp_all) (J,id,n,role,commit,votes,p,to) h1
theorem zrO : Lift.Spec Tryz.prog 37 zlU:=by
 refine zad [] (C:=CR4) zac ztB follows Tryz.func37 (by kernel_rfl) rfl (by kernel_rfl) rfl ?_
 rintro ⟨J,id,n,role,commit,votes,p,to⟩ h1
 try simp only at h1
 refine ⟨by simp,?_⟩
 intro r hr
 simp [h1,GMessage.cells,zab]
 (repeat refine dr ?_)
 rw [hr]
 refine retE [] [] [] [] [.inl 0,.inl 1] rfl ?_
 simp [GMessage.cells,zam,GLogged.row]
noncomputable def zlY:=fam (fun i : JN × Int × Int × Int × Int × Int × P5 × ( Int) × ( Bool) × ( Int)=>[V.ptr 0 0 0,.int .i64 i.2.2.2.2.2.2.2.1,.bool i.2.2.2.2.2.2.2.2.1,.int .i64 i.2.2.2.2.2.2.2.2.2]) (fun i=>[drA 1 i.2.1 i.2.2.1 i.2.2.2.1 i.2.2.2.2.1 i.2.2.2.2.2.1 i.2.2.2.2.2.2.1,jnO i.1]) (fun _=>True) (fun i=>⟨.sl 2 9 (GMessage.row [⟨4,i.2.1,i.2.2.2.2.2.2.2.1,i.1.term,i.2.2.2.2.2.2.2.2.2,0,0,i.2.2.2.2.2.2.2.2.1,[]⟩]),[drA 1 i.2.1 i.2.2.1 i.2.2.2.1 i.2.2.2.2.1 i.2.2.2.2.2.1 i.2.2.2.2.2.2.1,jnO i.1]⟩)
@[simp] theorem drStoSp_eq {J : JN} {id n role commit votes : Int} {p : P5} {to :  Int} {ok :  Bool} {x :  Int}  : zlY ([V.ptr 0 0 0,.int .i64 to,.bool ok,.int .i64 x]) ([drA 1 id n role commit votes p,jnO J]) = some (⟨.sl 2 9 (GMessage.row [⟨4,id,to,J.term,x,0,0,ok,[]⟩]),[drA 1 id n role commit votes p,jnO J]⟩) :=
 zag (by rintro ⟨a0,a1,a2,a3,a4,a5,a6,a7,a8,a9⟩ ⟨b0,b1,b2,b3,b4,b5,b6,b7,b8,b9⟩ h h' <;> simp at h h' <;> simp_all) (J,id,n,role,commit,votes,p,to,ok,x) trivial
theorem zrR : Lift.Spec Tryz.prog 74 zlY:=by
 refine zad [] (C:=CR4) zac ztB follows Tryz.func74 (by kernel_rfl) rfl (by kernel_rfl) rfl ?_
 rintro ⟨J,id,n,role,commit,votes,p,to,ok,x⟩ _
 refine ⟨by simp,?_⟩
 intro r hr
 simp [GMessage.cells,zab]
 (repeat refine dr ?_)
 rw [hr]
 refine retE [.inr 8] [] [] [] [.inl 0,.inl 1] rfl ?_
 simp [GMessage.cells,GMessage.row,GLogged.row]
noncomputable def zfe:=fam (fun i : JN × Int × Int × Int × Int × Int × P5 × ( Nat)=>[V.ptr 0 0 0,.int .i64 i.2.2.2.2.2.2.2]) (fun i=>[drA 1 i.2.1 i.2.2.1 i.2.2.2.1 i.2.2.2.2.1 i.2.2.2.2.2.1 i.2.2.2.2.2.2.1,jnO i.1]) (fun i=>(i.2.2.2.2.2.2.2 < 5) ∧ ((i.2.2.2.2.2.2.2 : Int) < i.2.2.1) ∧ (0 ≤ i.2.2.2.2.2.2.1.nx i.2.2.2.2.2.2.2) ∧ (i.2.2.2.2.2.2.1.nx i.2.2.2.2.2.2.2 ≤ i.1.log.length) ∧ (i.1.log.length ≤ 1000000000)) (fun i=>⟨zam (appM (asR (⟨i.1,i.2.1,i.2.2.1,i.2.2.2.1,i.2.2.2.2.1,i.2.2.2.2.2.1,i.2.2.2.2.2.2.1⟩ : DN)) i.2.2.2.2.2.2.2),[drA 1 i.2.1 i.2.2.1 i.2.2.2.1 i.2.2.2.2.1 i.2.2.2.2.2.1 i.2.2.2.2.2.2.1,jnO i.1]⟩)
@[simp] theorem zjn {J : JN} {id n role commit votes : Int} {p : P5} {to :  Nat} (h1 : to < 5) (h2 : (to : Int) < n) (h3 : 0 ≤ p.nx to) (h4 : p.nx to ≤ J.log.length) (h5 : J.log.length ≤ 1000000000) : zfe ([V.ptr 0 0 0,.int .i64 to]) ([drA 1 id n role commit votes p,jnO J]) = some (⟨zam (appM (asR (⟨J,id,n,role,commit,votes,p⟩ : DN)) to),[drA 1 id n role commit votes p,jnO J]⟩) :=
 zag (by rintro ⟨a0,a1,a2,a3,a4,a5,a6,a7⟩ ⟨b0,b1,b2,b3,b4,b5,b6,b7⟩ h h' <;> simp at h h' <;> simp_all) (J,id,n,role,commit,votes,p,to) ⟨h1,h2,h3,h4,h5⟩
theorem ztQ (D : DN) {k : Nat} (h : (k : Int) < D.n) : nxR (asR D) k = D.p.nx k:=by
 unfold nxR asR P5.nx
 simp only [Int.toNat_natCast,List.getD_eq_getElem?_getD]
 rw [List.getElem?_take_of_lt (by omega)]
theorem zyk (D : DN) {k : Nat} (h : (k : Int) < D.n) : mtR (asR D) k = D.p.mx k:=by
 unfold mtR asR P5.mx
 simp only [Int.toNat_natCast,List.getD_eq_getElem?_getD]
 rw [List.getElem?_take_of_lt (by omega)]
set_option maxHeartbeats 4000000 in
theorem zjo : Lift.Spec Tryz.prog 78 zfe:=by
 refine zad [] (C:=CR4) zac ztB follows Tryz.func78 (by kernel_rfl) rfl (by kernel_rfl) rfl ?_
 rintro ⟨J,id,n,role,commit,votes,p,to⟩ ⟨h1,h2,h3,h4,h5⟩
 try simp only at h1 h2 h3 h4 h5
 refine ⟨by simp,?_⟩
 intro r hr
 have hnx:=ztQ (⟨J,id,n,role,commit,votes,p⟩ : DN) h2
 simp only at hnx
 obtain ⟨y,hy⟩:=Int.eq_ofNat_of_zero_le h3
 have hA : appM (asR (⟨J,id,n,role,commit,votes,p⟩ : DN)) to = ⟨3,id,to,J.term,y,(logAt J.log ((y : Int) - 1)).Term,commit,false,J.log.drop y⟩:=by
  unfold appM
  rw [hnx,hy]; rfl
 rw [hA] at hr
 have hy1 : y ≤ 1000000000:=by omega
 have w1 : IntKind.i64.wrap ((y : Int) - 1) = y - 1:=w64
 clear hA hnx
 have h5c : to = 0 ∨ to = 1 ∨ to = 2 ∨ to = 3 ∨ to = 4:=by omega
 obtain ⟨n0,m0,n1,m1,n2,m2,n3,m3,n4,m4⟩:=p
 rcases h5c with rfl | rfl | rfl | rfl | rfl
 all_goals
  simp [P5.nx,P5.nl] at hy
  subst hy
  simp [GMessage.cells,zab,w1,h5,hy1]
  (repeat refine dr ?_)
  rw [hr]
  refine retE [] [] [] [] [.inl 0,.inl 1] rfl ?_
  simp [GMessage.cells,zam]
end Go.Proofs.YtcpdgbncekdicaaGreat

