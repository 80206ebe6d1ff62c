import Derived.Test.YtdhobdmhnocbgabGreatDoorSMsgs
import Derived.Test.YtdhobdmhnocbgabGreatDoorSRefP
import Derived.Test.YtdhobdmhnocbgabGreatDoorSOpnE
import Derived.Test.YtdhobdmhnocbgabGreatDoorSRolH
namespace Go.Proofs.YtdhobdmhnocbgabGreatDoor.Zr
def Q11 (s:ByteArray) (k:Nat):List ByteArray × Nat :=
 if _h:k+2≤s.size∧k+2+num s k 2≤s.size then
  (s.extract (k+2) (k+2+num s k 2) :: (Q11 s (k+2+num s k 2)).1,(Q11 s (k+2+num s k 2)).2)
 else ([],s.size - k)
termination_by s.size - k
theorem Q4R {s:ByteArray} {k:Nat} (h:¬ (k+2≤s.size∧k+2+num s k 2≤s.size)):Q11 s k=([],s.size - k):=by
 rw [Q11,dif_neg h]
theorem Q4J {s:ByteArray} {k:Nat} (h:k+2≤s.size∧k+2+num s k 2≤s.size):Q11 s k=(s.extract (k+2) (k+2+num s k 2) :: (Q11 s (k+2+num s k 2)).1,(Q11 s (k+2+num s k 2)).2):=by
 rw [Q11,dif_pos h]
theorem QaF (a b:ByteArray) (k:Nat):∀ n,k+n≤a.size→num (a++b) k n=num a k n
 | 0,_=>rfl
 | n+1,h=>by
  unfold num
  rw [QaF a b k n (by omega),Q05,if_pos (by omega)]
theorem QiO (a b:ByteArray) (i j:Nat) (h1:i≤j) (h2:j≤a.size):(a++b).extract i j=a.extract i j:=by
 have hs:(a++b).size=a.size+b.size:=ByteArray.size_append
 refine Q3S ?_ fun k hk=>?_
 ·rw [Q0Z _ _ _ h1 (by omega),Q0Z _ _ _ h1 h2]
 ·rw [Q0Z _ _ _ h1 (by omega)] at hk
  rw [Q31 _ _ _ _ hk (by omega),Q31 _ _ _ _ hk h2,Q05,if_pos (by omega)]
theorem Qci (s:ByteArray) (k i j:Nat) (h1:i≤j) (h2:k+j≤s.size):(s.extract k s.size).extract i j=s.extract (k+i) (k+j):=by
 have hs:=Q0M s k (by omega)
 refine Q3S ?_ fun m hm=>?_
 ·rw [Q0Z _ _ _ h1 (by omega),Q0Z _ _ _ (by omega) h2]
  omega
 ·rw [Q0Z _ _ _ h1 (by omega)] at hm
  rw [Q31 _ _ _ _ hm (by omega),Q31 _ _ _ _ (by omega) h2,Q9c _ _ _ (by omega)]
  congr 1
  omega
theorem Q5B (s:ByteArray) (k:Nat):(Q11 s k).2≤s.size - k:=by
 by_cases h:k+2≤s.size∧k+2+num s k 2≤s.size
 ·rw [Q4J h]
  have:=Q5B s (k+2+num s k 2)
  simp only
  omega
 ·rw [Q4R h]
  exact Nat.le_refl _
termination_by s.size - k
theorem Qa8 (a b:ByteArray) (k:Nat) (hk:k≤a.size):Q11 (a++b) k=((Q11 a k).1++(Q11 (a++b) (a.size - (Q11 a k).2)).1,(Q11 (a++b) (a.size - (Q11 a k).2)).2):=by
 have hs:(a++b).size=a.size+b.size:=ByteArray.size_append
 by_cases h:k+2≤a.size∧k+2+num a k 2≤a.size
 ·have e:=QaF a b k 2 h.1
  have h':k+2≤(a++b).size∧k+2+num (a++b) k 2≤(a++b).size:=by rw [e]; omega
  have ih:=Qa8 a b (k+2+num a k 2) h.2
  rw [Q4J h',Q4J h,e,QiO a b _ _ (by omega) h.2]
  have i1:=congrArg Prod.fst ih
  have i2:=congrArg Prod.snd ih
  simp only at i1 i2
  simp only [List.cons_append]
  rw [i1,i2]
 ·rw [Q4R h]
  simp only [List.nil_append]
  rw [show a.size - (a.size - k)=k by omega]
termination_by a.size - k
theorem Q8B (s:ByteArray) (k j:Nat) (hk:k≤s.size):Q11 s (k+j)=Q11 (s.extract k s.size) j:=by
 have hs:=Q0M s k hk
 by_cases h:k+j+2≤s.size∧k+j+2+num s (k+j) 2≤s.size
 ·have e:=Q9S s k j 2 (by omega)
  have h':j+2≤(s.extract k s.size).size∧j+2+num (s.extract k s.size) j 2≤(s.extract k s.size).size:=by rw [e]; omega
  have ih:=Q8B s k (j+2+num s (k+j) 2) hk
  rw [Q4J h,Q4J h',e,Qci s k _ _ (by omega) (by omega),←ih]
  rw [show k+j+2+num s (k+j) 2=k+(j+2+num s (k+j) 2) by omega,show k+j+2=k+(j+2) by omega]
 ·have h':¬ (j+2≤(s.extract k s.size).size∧j+2+num (s.extract k s.size) j 2≤(s.extract k s.size).size):=fun h'=>by
   have e:=Q9S s k j 2 (by omega)
   rw [e] at h'
   exact h (by omega)
  rw [Q4R h,Q4R h']
  rw [show (s.extract k s.size).size - j=s.size - (k+j) by omega]
termination_by s.size - j
def Q1N (s:ByteArray):ByteArray:=s.extract (s.size - (Q11 s 0).2) s.size
theorem Q86 (s:ByteArray):(Q1N s).size=(Q11 s 0).2:=by
 have:=Q5B s 0
 unfold Q1N
 rw [Q0M _ _ (by omega)]
 omega
theorem Q5W (a b:ByteArray) (k:Nat) (h:k≤a.size):(a++b).extract k (a++b).size=a.extract k a.size++b:=by
 have hs:(a++b).size=a.size+b.size:=ByteArray.size_append
 have h1:=Q0M a k h
 refine Q3S ?_ fun m hm=>?_
 ·rw [Q0M (a++b) k (by omega),ByteArray.size_append,ByteArray.size_append,h1]
  omega
 ·rw [Q0M _ _ (by omega)] at hm
  rw [Q9c _ _ _ (by omega),Q05,Q05,h1]
  by_cases c:k+m < a.size
  ·rw [if_pos c,if_pos (by omega),Q9c _ _ _ c]
  ·rw [if_neg c,if_neg (by omega)]
   congr 1
   omega
theorem Qbm (a b:ByteArray):Q11 (a++b) 0=((Q11 a 0).1++(Q11 (Q1N a++b) 0).1,(Q11 (Q1N a++b) 0).2):=by
 have h:=Q5B a 0
 have hs:(a++b).size=a.size+b.size:=ByteArray.size_append
 have e:=Qa8 a b 0 (Nat.zero_le _)
 have e2:=Q8B (a++b) (a.size - (Q11 a 0).2) 0 (by omega)
 rw [Q5W a b _ (by omega)] at e2
 rw [Nat.add_zero] at e2
 rw [e2] at e
 exact e
theorem Qab (a b:ByteArray):Q1N (a++b)=Q1N (Q1N a++b):=by
 have h:=Q5B a 0
 have h2:=Q5B (Q1N a++b) 0
 have hs:(a++b).size=a.size+b.size:=ByteArray.size_append
 have hl:=Q86 a
 have hs2:(Q1N a++b).size=(Q1N a).size+b.size:=ByteArray.size_append
 have e:(Q11 (a++b) 0).2=(Q11 (Q1N a++b) 0).2:=by rw [Qbm]
 have hx:(Q1N a++b).size=(a++b).size - (a.size - (Q11 a 0).2):=by omega
 have t2:(a++b).extract (a.size - (Q11 a 0).2) (a++b).size=Q1N a++b:=Q5W a b (a.size - (Q11 a 0).2) (by omega)
 have m:=Qci (a++b) (a.size - (Q11 a 0).2) ((Q1N a++b).size - (Q11 (Q1N a++b) 0).2) (Q1N a++b).size (by omega) (by omega)
 rw [t2] at m
 show (a++b).extract ((a++b).size - (Q11 (a++b) 0).2) (a++b).size=(Q1N a++b).extract ((Q1N a++b).size - (Q11 (Q1N a++b) 0).2) (Q1N a++b).size
 rw [e,m]
 congr 1 <;> omega
end Go.Proofs.YtdhobdmhnocbgabGreatDoor.Zr
namespace Go.Proofs.YtdhobdmhnocbgabGreatDoor
open Go.RowKit Zr
def Qc6 (z:List RI) (nm:ByteArray) (t:Int):Nat:=z.countP fun x=>decide (x.name=nm∧x.ty=t)
def QlW (z:List RI) (nm:ByteArray) (t:Int) (d:ByteArray):Nat:=z.countP fun x=>decide (x.name=nm∧x.ty=t∧x.data=d∧x.cl=1∧x.ttl=30)
def QmC (z:List RI) (nm:ByteArray):Nat:=z.countP fun x=>decide (x.ty=33∧6 < x.data.size∧x.data.extract 6 x.data.size=nm)
end Go.Proofs.YtdhobdmhnocbgabGreatDoor
namespace Go.Proofs.YtdhobdmhnocbgabGreatDoor
open Zr
theorem Q3c (s:ByteArray):(Qj s).size=s.size+11:=by
 unfold Qj
 rw [ByteArray.size_append,ByteArray.size_append]
 show 1+s.size+10=_
 omega
theorem Qbo {x y:ByteArray} (h:Qj x=Qj y):x=y:=by
 have hs:x.size=y.size:=by have:=congrArg ByteArray.size h; rw [Q3c,Q3c] at this; omega
 refine Q3S hs fun i hi=>?_
 have h1:bt (Qj x) (1+i)=bt x i:=by
  unfold Qj
  rw [ByteArray.append_assoc,Q05,if_neg (by show ¬ (1+i < 1); omega),Q05,if_pos (by show 1+i - 1 < _; omega)]
  show bt x (1+i - 1)=_
  rw [Nat.add_sub_cancel_left]
 have h2:bt (Qj y) (1+i)=bt y i:=by
  unfold Qj
  rw [ByteArray.append_assoc,Q05,if_neg (by show ¬ (1+i < 1); omega),Q05,if_pos (by show 1+i - 1 < _; omega)]
  show bt y (1+i - 1)=_
  rw [Nat.add_sub_cancel_left]
 rw [←h1,←h2,h]
def QmT (l:List Ev) (e:Ev):Prop:=∀ x,x∈l→Q2k x→x.node=e.node→x.inc < e.inc
theorem Qhz {up:List Ev} (hr:Q3P up) {e:Ev} (he:e∈up):∃ U V,up=U++e :: V∧(∀ u,u∈U→u.node≠e.node)∧(∀ u,u∈V→u.node≠e.node):=by
 obtain ⟨U,V,rfl⟩:=List.append_of_mem he
 obtain ⟨_,h2,h3⟩:=List.pairwise_append.1 hr
 obtain ⟨h4,_⟩:=List.pairwise_cons.1 h2
 exact ⟨U,V,rfl,fun u hu=>Q4B (h3 u hu e (by simp)),fun u hu h=>Q4B (h4 u hu) h.symm⟩
theorem QkF {up:List Ev} {r:RI} (h:r∈(Q1Z up up.length).1):∃ a,Q2Q up a≠⟨#[]⟩∧r=Q03 (Qj a) 5 (Qj (Q2Q up a)):=by
 obtain ⟨⟨S,_,_,_,_,h5⟩,_⟩:=Qep up up.length
 rw [h5] at h
 obtain ⟨a,_,ha⟩:=List.mem_filterMap.1 h
 unfold Qc4 at ha
 split at ha
 ·cases ha
 ·next hb=>cases ha; exact ⟨a,hb,rfl⟩
theorem Q7v {p:RI→Bool} {l:List RI} (h:∀ x,x∈l→p x=false):l.countP p=0:=by
 rw [List.countP_eq_zero]
 intro x hx
 rw [h x hx]
 simp
structure Own (up:List Ev) (node:ByteArray) (p:RI→Bool):Prop where
 head:∀ x,x=Q03 Qm 6 x.data∨x=Q03 Qm 2 Q0C→p x=false
 ali:∀ a,a≠node∨Q9k up node→Q2Q up a≠⟨#[]⟩→p (Q03 (Qj a) 5 (Qj (Q2Q up a)))=false
 host:∀ u,u.node≠node→∀ x,x∈Q0y u→p x=false
 srv:∀ u,u.node≠node→p (Q1o u)=false
theorem Qgk {L:List Ev} {p:RI→Bool} {node:ByteArray} (hp:Own (upP L) node p) (hup:Q9k (upP L) node∨∀ a,p (Q03 (Qj a) 5 (Qj (Q2Q (upP L) a)))=false) :
  (Q0J L).countP p=((upP L).flatMap Q0y).countP p+((upP L).map Q1o).countP p:=by
 unfold Q0J
 rw [List.countP_append,List.countP_append,List.countP_append]
 have h1:([Q03 Qm 6 (Q5Q (Q2S L L.length).toNat),Q03 Qm 2 Q0C]:List RI).countP p=0:=Q7v fun x hx=>by
  simp only [List.mem_cons,List.not_mem_nil,or_false] at hx
  rcases hx with rfl | rfl
  ·exact hp.head _ (.inl rfl)
  ·exact hp.head _ (.inr rfl)
 have h2:((Q1Z (upP L) (upP L).length).1).countP p=0:=Q7v fun x hx=>by
  obtain ⟨a,hb,rfl⟩:=QkF hx
  rcases hup with h | h
  ·exact hp.ali a (.inr h) hb
  ·exact h a
 rw [h1,h2]
 omega
theorem QbE {U:List Ev} {p:RI→Bool} {node:ByteArray} {up:List Ev} (hp:Own up node p) (h:∀ u,u∈U→u.node≠node):(U.flatMap Q0y).countP p=0 :=
 Q7v fun x hx=>by obtain ⟨u,hu,hx⟩:=List.mem_flatMap.1 hx; exact hp.host u (h u hu) x hx
theorem Qcx {U:List Ev} {p:RI→Bool} {node:ByteArray} {up:List Ev} (hp:Own up node p) (h:∀ u,u∈U→u.node≠node):(U.map Q1o).countP p=0 :=
 Q7v fun x hx=>by obtain ⟨u,hu,rfl⟩:=List.mem_map.1 hx; exact hp.srv u (h u hu)
theorem QgW {L:List Ev} {p:RI→Bool} {e:Ev} (hp:Own (upP L) e.node p) (he:e∈upP L):(Q0J L).countP p=(Q0y e).countP p+(if p (Q1o e) then 1 else 0):=by
 rw [Qgk hp (.inl ⟨e,he,rfl⟩)]
 obtain ⟨U,V,hUV,hU,hV⟩:=Qhz (Q66 L).1 he
 rw [hUV,List.flatMap_append,List.flatMap_cons,List.countP_append,List.countP_append,QbE hp hU,QbE hp hV,List.map_append,List.map_cons,List.countP_append,List.countP_cons,Qcx hp hU,Qcx hp hV]
 omega
theorem Q78 {u:Ev} {x:RI} (h:x∈Q0y u):x.name=Qj u.node∧(x.ty=1∨x.ty=28∨x.ty=16)∧x.cl=1∧x.ttl=30:=by
 unfold Q0y at h
 rcases List.mem_cons.1 h with rfl | h
 ·refine ⟨rfl,?_,rfl,rfl⟩
  show (if u.addr.size=16 then (28:Int) else 1)=1∨_=28∨_
  split
  ·exact .inr (.inl rfl)
  ·exact .inl rfl
 ·split at h
  ·simp at h
  ·rw [List.mem_singleton] at h
   subst h
   exact ⟨rfl,.inr (.inr rfl),rfl,rfl⟩
theorem Qkl {up:List Ev} {a:ByteArray} (h:Q9k up a):Q2Q up a=⟨#[]⟩:=by
 unfold Q2Q
 obtain ⟨u,hu,hn⟩:=h
 obtain ⟨i,hi,rfl⟩:=Q64 hu
 rw [if_pos ⟨i,hi,hn⟩]
theorem Qk5 (up:List Ev) (node:ByteArray) (t:Int) (ht:t=1∨t=28∨t=16∨t=5):Own up node fun x=>decide (x.name=Qj node∧x.ty=t):=by
 refine ⟨fun x hx=>decide_eq_false fun h=>?_,fun a ha hb=>decide_eq_false fun h=>?_,fun u hu x hx=>decide_eq_false fun h=>?_,fun u _=>decide_eq_false fun h=>?_⟩
 ·have:x.ty=6∨x.ty=2:=by rcases hx with hx | hx <;> rw [hx]; exact .inl rfl; exact .inr rfl
  omega
 ·have e:=Qbo h.1
  rcases ha with ha | ha
  ·exact ha e
  ·rw [e] at hb; exact hb (Qkl ha)
 ·exact hu (Qbo ((Q78 hx).1.symm.trans h.1))
 ·have h2:(33:Int)=t:=h.2
  omega
theorem Qcw (u:Ev):(Q1o u).data.size=6+(Qj u.node).size∧(Q1o u).data.extract 6 (Q1o u).data.size=Qj u.node:=by
 have e:(Q1o u).data=(q4 0++wd u.port.toNat)++Qj u.node:=rfl
 have hz:(q4 0++wd u.port.toNat).size=6:=rfl
 rw [e]
 constructor
 ·rw [ByteArray.size_append,hz]
 ·rw [Q5W _ _ 6 (by rw [hz]; exact Nat.le_refl _)]
  have:=Q2t (q4 0++wd u.port.toNat) 6
  rw [hz,this]
  exact ByteArray.empty_append
def Q0L (e:Ev):Int:=if e.addr.size=16 then 28 else 1
structure Has (z:List RI) (e:Ev):Prop where
 addr:Qc6 z (Qj e.node) 1+Qc6 z (Qj e.node) 28=1
 text:Qc6 z (Qj e.node) 16=if e.text=⟨#[]⟩ then 0 else 1
 cname:Qc6 z (Qj e.node) 5=0
 off:QmC z (Qj e.node)=1
 exA:QlW z (Qj e.node) (Q0L e) e.addr=1
 exT:e.text≠⟨#[]⟩→QlW z (Qj e.node) 16 (one e.text.size++e.text)=1
 exS:QlW z Q32 33 (q4 0++wd e.port.toNat++Qj e.node)=1
theorem Qdz (e:Ev) (p:RI→Bool):(Q0y e).countP p=(if p (Q03 (Qj e.node) (Q0L e) e.addr) then 1 else 0)+(if e.text=⟨#[]⟩ then 0 else if p (Q03 (Qj e.node) 16 (one e.text.size++e.text)) then 1 else 0):=by
 have e0:Q0y e=Q03 (Qj e.node) (Q0L e) e.addr :: (if e.text=⟨#[]⟩ then [] else [Q03 (Qj e.node) 16 (one e.text.size++e.text)]):=rfl
 rw [e0,List.countP_cons]
 by_cases c:e.text=⟨#[]⟩
 ·rw [if_pos c,if_pos c,List.countP_nil]
  omega
 ·rw [if_neg c,if_neg c,List.countP_cons,List.countP_nil]
  omega
theorem Q9e (e:Ev):Q0L e=1∨Q0L e=28:=by
 unfold Q0L
 split
 ·exact .inr rfl
 ·exact .inl rfl
theorem Qfw {L:List Ev} {e:Ev} (he:e∈upP L) (t:Int) (ht:t=1∨t=28∨t=16∨t=5):Qc6 (Q0J L) (Qj e.node) t=(if Q0L e=t then 1 else 0)+(if e.text=⟨#[]⟩ then 0 else if (16:Int)=t then 1 else 0):=by
 have h:=QgW (Qk5 (upP L) e.node t ht) he
 unfold Qc6
 rw [h,Qdz]
 have s:(decide ((Q1o e).name=Qj e.node∧(Q1o e).ty=t))=false:=decide_eq_false fun q=>by have:(33:Int)=t:=q.2; omega
 rw [s]
 have k1:decide ((Q03 (Qj e.node) (Q0L e) e.addr).name=Qj e.node∧(Q03 (Qj e.node) (Q0L e) e.addr).ty=t)=decide (Q0L e=t):=by
  rw [Bool.eq_iff_iff]
  simp [Q03]
 have k2:decide ((Q03 (Qj e.node) 16 (one e.text.size++e.text)).name=Qj e.node∧(Q03 (Qj e.node) 16 (one e.text.size++e.text)).ty=t)=decide ((16:Int)=t):=by
  rw [Bool.eq_iff_iff]
  simp [Q03]
 rw [k1,k2]
 simp only [decide_eq_true_eq,Bool.false_eq_true,if_false,Nat.add_zero]
end Go.Proofs.YtdhobdmhnocbgabGreatDoor
namespace Go.Proofs.YtdhobdmhnocbgabGreatDoor
open Go.RowKit Zr
instance (c:Nat):Decidable (Q89 c):=by unfold Q89; exact inferInstance
def Qm6:ByteArray:=⟨#[97,98,99,100,101,102,103,104,105,106,107,108,109,110,111,112,113,114,115,116,117,118,119,120,121,122,48,49,50,51,52,53,54,55,56,57,45]⟩
def QmX (s:ByteArray):Prop:=∀ i,i < s.size→Q89 (bt s i)
def Qmy (e:Ending):Prop:=∃ s,e=.returned (.string s)∧Q2y s
end Go.Proofs.YtdhobdmhnocbgabGreatDoor
