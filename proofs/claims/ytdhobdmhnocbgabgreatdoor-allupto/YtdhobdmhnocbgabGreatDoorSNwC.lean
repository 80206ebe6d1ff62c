import Derived.Test.YtdhobdmhnocbgabGreatDoorSMsgs
import Derived.Test.YtdhobdmhnocbgabGreatDoorSRefP
import Derived.Test.YtdhobdmhnocbgabGreatDoorSOpnE
import Derived.Test.YtdhobdmhnocbgabGreatDoorSRolH
namespace Go.Proofs.YtdhobdmhnocbgabGreatDoor.Zr
def Q11 (s:ByteArray) (k:Nat):List ByteArray × Nat :=
 if _h:k+2≤s.size∧k+2+num s k 2≤s.size then
  (s.extract (k+2) (k+2+num s k 2) :: (Q11 s (k+2+num s k 2)).1,(Q11 s (k+2+num s k 2)).2)
 else ([],s.size - k)
termination_by s.size - k
theorem Q4S {s:ByteArray} {k:Nat} (h:¬ (k+2≤s.size∧k+2+num s k 2≤s.size)):Q11 s k=([],s.size - k):=by
 rw [Q11,dif_neg h]
theorem Q4E {s:ByteArray} {k:Nat} (h:k+2≤s.size∧k+2+num s k 2≤s.size):Q11 s k=(s.extract (k+2) (k+2+num s k 2) :: (Q11 s (k+2+num s k 2)).1,(Q11 s (k+2+num s k 2)).2):=by
 rw [Q11,dif_pos h]
theorem Q9X (a b:ByteArray) (k:Nat):∀ n,k+n≤a.size→num (a++b) k n=num a k n
 | 0,_=>rfl
 | n+1,h=>by
  unfold num
  rw [Q9X a b k n (by omega),Q03,if_pos (by omega)]
theorem Qi7 (a b:ByteArray) (i j:Nat) (h1:i≤j) (h2:j≤a.size):(a++b).extract i j=a.extract i j:=by
 have hs:(a++b).size=a.size+b.size:=ByteArray.size_append
 refine Q3b ?_ fun k hk=>?_
 ·rw [Q0Z _ _ _ h1 (by omega),Q0Z _ _ _ h1 h2]
 ·rw [Q0Z _ _ _ h1 (by omega)] at hk
  rw [Q2p _ _ _ _ hk (by omega),Q2p _ _ _ _ hk h2,Q03,if_pos (by omega)]
theorem Qc0 (s:ByteArray) (k i j:Nat) (h1:i≤j) (h2:k+j≤s.size):(s.extract k s.size).extract i j=s.extract (k+i) (k+j):=by
 have hs:=Q0L s k (by omega)
 refine Q3b ?_ fun m hm=>?_
 ·rw [Q0Z _ _ _ h1 (by omega),Q0Z _ _ _ (by omega) h2]
  omega
 ·rw [Q0Z _ _ _ h1 (by omega)] at hm
  rw [Q2p _ _ _ _ hm (by omega),Q2p _ _ _ _ (by omega) h2,Q99 _ _ _ (by omega)]
  congr 1
  omega
theorem Q5j (s:ByteArray) (k:Nat):(Q11 s k).2≤s.size - k:=by
 by_cases h:k+2≤s.size∧k+2+num s k 2≤s.size
 ·rw [Q4E h]
  have:=Q5j s (k+2+num s k 2)
  simp only
  omega
 ·rw [Q4S h]
  exact Nat.le_refl _
termination_by s.size - k
theorem Q9y (a b:ByteArray) (k:Nat) (hk:k≤a.size):Q11 (a++b) k=((Q11 a k).1++(Q11 (a++b) (a.size - (Q11 a k).2)).1,(Q11 (a++b) (a.size - (Q11 a k).2)).2):=by
 have hs:(a++b).size=a.size+b.size:=ByteArray.size_append
 by_cases h:k+2≤a.size∧k+2+num a k 2≤a.size
 ·have e:=Q9X a b k 2 h.1
  have h':k+2≤(a++b).size∧k+2+num (a++b) k 2≤(a++b).size:=by rw [e]; omega
  have ih:=Q9y a b (k+2+num a k 2) h.2
  rw [Q4E h',Q4E h,e,Qi7 a b _ _ (by omega) h.2]
  have i1:=congrArg Prod.fst ih
  have i2:=congrArg Prod.snd ih
  simp only at i1 i2
  simp only [List.cons_append]
  rw [i1,i2]
 ·rw [Q4S h]
  simp only [List.nil_append]
  rw [show a.size - (a.size - k)=k by omega]
termination_by a.size - k
theorem Q8d (s:ByteArray) (k j:Nat) (hk:k≤s.size):Q11 s (k+j)=Q11 (s.extract k s.size) j:=by
 have hs:=Q0L s k hk
 by_cases h:k+j+2≤s.size∧k+j+2+num s (k+j) 2≤s.size
 ·have e:=Q9Y s k j 2 (by omega)
  have h':j+2≤(s.extract k s.size).size∧j+2+num (s.extract k s.size) j 2≤(s.extract k s.size).size:=by rw [e]; omega
  have ih:=Q8d s k (j+2+num s (k+j) 2) hk
  rw [Q4E h,Q4E h',e,Qc0 s k _ _ (by omega) (by omega),←ih]
  rw [show k+j+2+num s (k+j) 2=k+(j+2+num s (k+j) 2) by omega,show k+j+2=k+(j+2) by omega]
 ·have h':¬ (j+2≤(s.extract k s.size).size∧j+2+num (s.extract k s.size) j 2≤(s.extract k s.size).size):=fun h'=>by
   have e:=Q9Y s k j 2 (by omega)
   rw [e] at h'
   exact h (by omega)
  rw [Q4S h,Q4S h']
  rw [show (s.extract k s.size).size - j=s.size - (k+j) by omega]
termination_by s.size - j
def Q1P (s:ByteArray):ByteArray:=s.extract (s.size - (Q11 s 0).2) s.size
theorem Q8m (s:ByteArray):(Q1P s).size=(Q11 s 0).2:=by
 have:=Q5j s 0
 unfold Q1P
 rw [Q0L _ _ (by omega)]
 omega
theorem Q6i (a b:ByteArray) (k:Nat) (h:k≤a.size):(a++b).extract k (a++b).size=a.extract k a.size++b:=by
 have hs:(a++b).size=a.size+b.size:=ByteArray.size_append
 have h1:=Q0L a k h
 refine Q3b ?_ fun m hm=>?_
 ·rw [Q0L (a++b) k (by omega),ByteArray.size_append,ByteArray.size_append,h1]
  omega
 ·rw [Q0L _ _ (by omega)] at hm
  rw [Q99 _ _ _ (by omega),Q03,Q03,h1]
  by_cases c:k+m < a.size
  ·rw [if_pos c,if_pos (by omega),Q99 _ _ _ c]
  ·rw [if_neg c,if_neg (by omega)]
   congr 1
   omega
theorem Qbf (a b:ByteArray):Q11 (a++b) 0=((Q11 a 0).1++(Q11 (Q1P a++b) 0).1,(Q11 (Q1P a++b) 0).2):=by
 have h:=Q5j a 0
 have hs:(a++b).size=a.size+b.size:=ByteArray.size_append
 have e:=Q9y a b 0 (Nat.zero_le _)
 have e2:=Q8d (a++b) (a.size - (Q11 a 0).2) 0 (by omega)
 rw [Q6i a b _ (by omega)] at e2
 rw [Nat.add_zero] at e2
 rw [e2] at e
 exact e
theorem Q9P (a b:ByteArray):Q1P (a++b)=Q1P (Q1P a++b):=by
 have h:=Q5j a 0
 have h2:=Q5j (Q1P a++b) 0
 have hs:(a++b).size=a.size+b.size:=ByteArray.size_append
 have hl:=Q8m a
 have hs2:(Q1P a++b).size=(Q1P a).size+b.size:=ByteArray.size_append
 have e:(Q11 (a++b) 0).2=(Q11 (Q1P a++b) 0).2:=by rw [Qbf]
 have hx:(Q1P a++b).size=(a++b).size - (a.size - (Q11 a 0).2):=by omega
 have t2:(a++b).extract (a.size - (Q11 a 0).2) (a++b).size=Q1P a++b:=Q6i a b (a.size - (Q11 a 0).2) (by omega)
 have m:=Qc0 (a++b) (a.size - (Q11 a 0).2) ((Q1P a++b).size - (Q11 (Q1P a++b) 0).2) (Q1P a++b).size (by omega) (by omega)
 rw [t2] at m
 show (a++b).extract ((a++b).size - (Q11 (a++b) 0).2) (a++b).size=(Q1P a++b).extract ((Q1P a++b).size - (Q11 (Q1P a++b) 0).2) (Q1P a++b).size
 rw [e,m]
 congr 1 <;> omega
end Go.Proofs.YtdhobdmhnocbgabGreatDoor.Zr
namespace Go.Proofs.YtdhobdmhnocbgabGreatDoor
open Go.RowKit Zr
def Qc2 (z:List RI) (nm:ByteArray) (t:Int):Nat:=z.countP fun x=>decide (x.name=nm∧x.ty=t)
def Qlk (z:List RI) (nm:ByteArray) (t:Int) (d:ByteArray):Nat:=z.countP fun x=>decide (x.name=nm∧x.ty=t∧x.data=d∧x.cl=1∧x.ttl=30)
def QmI (z:List RI) (nm:ByteArray):Nat:=z.countP fun x=>decide (x.ty=33∧6 < x.data.size∧x.data.extract 6 x.data.size=nm)
end Go.Proofs.YtdhobdmhnocbgabGreatDoor
namespace Go.Proofs.YtdhobdmhnocbgabGreatDoor
open Zr
theorem Q3g (s:ByteArray):(Qj s).size=s.size+11:=by
 unfold Qj
 rw [ByteArray.size_append,ByteArray.size_append]
 show 1+s.size+10=_
 omega
theorem QbN {x y:ByteArray} (h:Qj x=Qj y):x=y:=by
 have hs:x.size=y.size:=by have:=congrArg ByteArray.size h; rw [Q3g,Q3g] at this; omega
 refine Q3b hs fun i hi=>?_
 have h1:bt (Qj x) (1+i)=bt x i:=by
  unfold Qj
  rw [ByteArray.append_assoc,Q03,if_neg (by show ¬ (1+i < 1); omega),Q03,if_pos (by show 1+i - 1 < _; omega)]
  show bt x (1+i - 1)=_
  rw [Nat.add_sub_cancel_left]
 have h2:bt (Qj y) (1+i)=bt y i:=by
  unfold Qj
  rw [ByteArray.append_assoc,Q03,if_neg (by show ¬ (1+i < 1); omega),Q03,if_pos (by show 1+i - 1 < _; omega)]
  show bt y (1+i - 1)=_
  rw [Nat.add_sub_cancel_left]
 rw [←h1,←h2,h]
def QmQ (l:List Ev) (e:Ev):Prop:=∀ x,x∈l→Q2i x→x.node=e.node→x.inc < e.inc
theorem QjA {up:List Ev} (hr:Q3H up) {e:Ev} (he:e∈up):∃ U V,up=U++e :: V∧(∀ u,u∈U→u.node≠e.node)∧(∀ u,u∈V→u.node≠e.node):=by
 obtain ⟨U,V,rfl⟩:=List.append_of_mem he
 obtain ⟨_,h2,h3⟩:=List.pairwise_append.1 hr
 obtain ⟨h4,_⟩:=List.pairwise_cons.1 h2
 exact ⟨U,V,rfl,fun u hu=>Q4w (h3 u hu e (by simp)),fun u hu h=>Q4w (h4 u hu) h.symm⟩
theorem QjL {up:List Ev} {r:RI} (h:r∈(Q1Z up up.length).1):∃ a,Q2L up a≠⟨#[]⟩∧r=Q04 (Qj a) 5 (Qj (Q2L up a)):=by
 obtain ⟨⟨S,_,_,_,_,h5⟩,_⟩:=Qe8 up up.length
 rw [h5] at h
 obtain ⟨a,_,ha⟩:=List.mem_filterMap.1 h
 unfold QbV at ha
 split at ha
 ·cases ha
 ·next hb=>cases ha; exact ⟨a,hb,rfl⟩
theorem Q7z {p:RI→Bool} {l:List RI} (h:∀ x,x∈l→p x=false):l.countP p=0:=by
 rw [List.countP_eq_zero]
 intro x hx
 rw [h x hx]
 simp
structure Own (up:List Ev) (node:ByteArray) (p:RI→Bool):Prop where
 head:∀ x,x=Q04 Qm 6 x.data∨x=Q04 Qm 2 Q0D→p x=false
 ali:∀ a,a≠node∨Q9N up node→Q2L up a≠⟨#[]⟩→p (Q04 (Qj a) 5 (Qj (Q2L up a)))=false
 host:∀ u,u.node≠node→∀ x,x∈Q0y u→p x=false
 srv:∀ u,u.node≠node→p (Q1q u)=false
theorem Qgx {L:List Ev} {p:RI→Bool} {node:ByteArray} (hp:Own (upP L) node p) (hup:Q9N (upP L) node∨∀ a,p (Q04 (Qj a) 5 (Qj (Q2L (upP L) a)))=false) :
  (Q0I L).countP p=((upP L).flatMap Q0y).countP p+((upP L).map Q1q).countP p:=by
 unfold Q0I
 rw [List.countP_append,List.countP_append,List.countP_append]
 have h1:([Q04 Qm 6 (Q5U (Q2S L L.length).toNat),Q04 Qm 2 Q0D]:List RI).countP p=0:=Q7z fun x hx=>by
  simp only [List.mem_cons,List.not_mem_nil,or_false] at hx
  rcases hx with rfl | rfl
  ·exact hp.head _ (.inl rfl)
  ·exact hp.head _ (.inr rfl)
 have h2:((Q1Z (upP L) (upP L).length).1).countP p=0:=Q7z fun x hx=>by
  obtain ⟨a,hb,rfl⟩:=QjL hx
  rcases hup with h | h
  ·exact hp.ali a (.inr h) hb
  ·exact h a
 rw [h1,h2]
 omega
theorem Qbm {U:List Ev} {p:RI→Bool} {node:ByteArray} {up:List Ev} (hp:Own up node p) (h:∀ u,u∈U→u.node≠node):(U.flatMap Q0y).countP p=0 :=
 Q7z fun x hx=>by obtain ⟨u,hu,hx⟩:=List.mem_flatMap.1 hx; exact hp.host u (h u hu) x hx
theorem QdS {U:List Ev} {p:RI→Bool} {node:ByteArray} {up:List Ev} (hp:Own up node p) (h:∀ u,u∈U→u.node≠node):(U.map Q1q).countP p=0 :=
 Q7z fun x hx=>by obtain ⟨u,hu,rfl⟩:=List.mem_map.1 hx; exact hp.srv u (h u hu)
theorem Qgy {L:List Ev} {p:RI→Bool} {e:Ev} (hp:Own (upP L) e.node p) (he:e∈upP L):(Q0I L).countP p=(Q0y e).countP p+(if p (Q1q e) then 1 else 0):=by
 rw [Qgx hp (.inl ⟨e,he,rfl⟩)]
 obtain ⟨U,V,hUV,hU,hV⟩:=QjA (Q6k L).1 he
 rw [hUV,List.flatMap_append,List.flatMap_cons,List.countP_append,List.countP_append,Qbm hp hU,Qbm hp hV,List.map_append,List.map_cons,List.countP_append,List.countP_cons,QdS hp hU,QdS hp hV]
 omega
theorem Q76 {u:Ev} {x:RI} (h:x∈Q0y u):x.name=Qj u.node∧(x.ty=1∨x.ty=28∨x.ty=16)∧x.cl=1∧x.ttl=30:=by
 unfold Q0y at h
 rcases List.mem_cons.1 h with rfl | h
 ·refine ⟨rfl,?_,rfl,rfl⟩
  show (if u.addr.size=16 then (28:Int) else 1)=1∨_=28∨_
  split
  ·exact .inr (.inl rfl)
  ·exact .inl rfl
 ·split at h
  ·simp at h
  ·rw [List.mem_singleton] at h
   subst h
   exact ⟨rfl,.inr (.inr rfl),rfl,rfl⟩
theorem QjO {up:List Ev} {a:ByteArray} (h:Q9N up a):Q2L up a=⟨#[]⟩:=by
 unfold Q2L
 obtain ⟨u,hu,hn⟩:=h
 obtain ⟨i,hi,rfl⟩:=Q64 hu
 rw [if_pos ⟨i,hi,hn⟩]
theorem Qky (up:List Ev) (node:ByteArray) (t:Int) (ht:t=1∨t=28∨t=16∨t=5):Own up node fun x=>decide (x.name=Qj node∧x.ty=t):=by
 refine ⟨fun x hx=>decide_eq_false fun h=>?_,fun a ha hb=>decide_eq_false fun h=>?_,fun u hu x hx=>decide_eq_false fun h=>?_,fun u _=>decide_eq_false fun h=>?_⟩
 ·have:x.ty=6∨x.ty=2:=by rcases hx with hx | hx <;> rw [hx]; exact .inl rfl; exact .inr rfl
  omega
 ·have e:=QbN h.1
  rcases ha with ha | ha
  ·exact ha e
  ·rw [e] at hb; exact hb (QjO ha)
 ·exact hu (QbN ((Q76 hx).1.symm.trans h.1))
 ·have h2:(33:Int)=t:=h.2
  omega
theorem QdR (u:Ev):(Q1q u).data.size=6+(Qj u.node).size∧(Q1q u).data.extract 6 (Q1q u).data.size=Qj u.node:=by
 have e:(Q1q u).data=(q4 0++wd u.port.toNat)++Qj u.node:=rfl
 have hz:(q4 0++wd u.port.toNat).size=6:=rfl
 rw [e]
 constructor
 ·rw [ByteArray.size_append,hz]
 ·rw [Q6i _ _ 6 (by rw [hz]; exact Nat.le_refl _)]
  have:=Q2z (q4 0++wd u.port.toNat) 6
  rw [hz,this]
  exact ByteArray.empty_append
def Q0N (e:Ev):Int:=if e.addr.size=16 then 28 else 1
structure Has (z:List RI) (e:Ev):Prop where
 addr:Qc2 z (Qj e.node) 1+Qc2 z (Qj e.node) 28=1
 text:Qc2 z (Qj e.node) 16=if e.text=⟨#[]⟩ then 0 else 1
 cname:Qc2 z (Qj e.node) 5=0
 off:QmI z (Qj e.node)=1
 exA:Qlk z (Qj e.node) (Q0N e) e.addr=1
 exT:e.text≠⟨#[]⟩→Qlk z (Qj e.node) 16 (one e.text.size++e.text)=1
 exS:Qlk z Q36 33 (q4 0++wd e.port.toNat++Qj e.node)=1
theorem Qd7 (e:Ev) (p:RI→Bool):(Q0y e).countP p=(if p (Q04 (Qj e.node) (Q0N e) e.addr) then 1 else 0)+(if e.text=⟨#[]⟩ then 0 else if p (Q04 (Qj e.node) 16 (one e.text.size++e.text)) then 1 else 0):=by
 have e0:Q0y e=Q04 (Qj e.node) (Q0N e) e.addr :: (if e.text=⟨#[]⟩ then [] else [Q04 (Qj e.node) 16 (one e.text.size++e.text)]):=rfl
 rw [e0,List.countP_cons]
 by_cases c:e.text=⟨#[]⟩
 ·rw [if_pos c,if_pos c,List.countP_nil]
  omega
 ·rw [if_neg c,if_neg c,List.countP_cons,List.countP_nil]
  omega
theorem Q9e (e:Ev):Q0N e=1∨Q0N e=28:=by
 unfold Q0N
 split
 ·exact .inr rfl
 ·exact .inl rfl
theorem QfI {L:List Ev} {e:Ev} (he:e∈upP L) (t:Int) (ht:t=1∨t=28∨t=16∨t=5):Qc2 (Q0I L) (Qj e.node) t=(if Q0N e=t then 1 else 0)+(if e.text=⟨#[]⟩ then 0 else if (16:Int)=t then 1 else 0):=by
 have h:=Qgy (Qky (upP L) e.node t ht) he
 unfold Qc2
 rw [h,Qd7]
 have s:(decide ((Q1q e).name=Qj e.node∧(Q1q e).ty=t))=false:=decide_eq_false fun q=>by have:(33:Int)=t:=q.2; omega
 rw [s]
 have k1:decide ((Q04 (Qj e.node) (Q0N e) e.addr).name=Qj e.node∧(Q04 (Qj e.node) (Q0N e) e.addr).ty=t)=decide (Q0N e=t):=by
  rw [Bool.eq_iff_iff]
  simp [Q04]
 have k2:decide ((Q04 (Qj e.node) 16 (one e.text.size++e.text)).name=Qj e.node∧(Q04 (Qj e.node) 16 (one e.text.size++e.text)).ty=t)=decide ((16:Int)=t):=by
  rw [Bool.eq_iff_iff]
  simp [Q04]
 rw [k1,k2]
 simp only [decide_eq_true_eq,Bool.false_eq_true,if_false,Nat.add_zero]
end Go.Proofs.YtdhobdmhnocbgabGreatDoor
namespace Go.Proofs.YtdhobdmhnocbgabGreatDoor
open Go.RowKit Zr
instance (c:Nat):Decidable (Q8j c):=by unfold Q8j; exact inferInstance
def Qmf:ByteArray:=⟨#[97,98,99,100,101,102,103,104,105,106,107,108,109,110,111,112,113,114,115,116,117,118,119,120,121,122,48,49,50,51,52,53,54,55,56,57,45]⟩
def QmX (s:ByteArray):Prop:=∀ i,i < s.size→Q8j (bt s i)
def Qmz (e:Ending):Prop:=∃ s,e=.returned (.string s)∧Q2A s
end Go.Proofs.YtdhobdmhnocbgabGreatDoor
