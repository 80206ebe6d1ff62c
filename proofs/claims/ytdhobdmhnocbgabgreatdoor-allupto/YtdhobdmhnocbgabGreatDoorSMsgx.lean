import Derived.Test.YtdhobdmhnocbgabGreatDoorSMsgs
import Derived.Test.YtdhobdmhnocbgabGreatDoorSWritY
namespace Go.Proofs.YtdhobdmhnocbgabGreatDoor.Zr
open Go.Proofs.YtdhobdmhnocbgabGreatDoor
theorem Q9W (d:ByteArray) (k:Nat):∀ i s q,Q0b d k i=.ok (s,q)→∀ j,j < i→∃ s' q' x t,Q0b d k j=.ok (s',q')∧Q05 d q'=.ok (x,t):=by
 intro i
 induction i with
 | zero=>intro s q _ j hj; omega
 | succ i ih =>
  intro s q h j hj
  rw [Q0b] at h
  cases hx:Q0b d k i with
  | error e=>rw [hx] at h; simp at h
  | ok z =>
   obtain ⟨s',q'⟩:=z
   rw [hx] at h
   simp only at h
   by_cases e:j=i
   ·subst e
    cases hy:Q05 d q' with
    | error e=>rw [hy] at h; simp at h
    | ok z =>
     obtain ⟨x,t⟩:=z
     exact ⟨s',q',x,t,hx,hy⟩
   ·exact ih s' q' hx j (by omega)
theorem QdG (K:List (ByteArray × Nat)) (d:ByteArray) (p:Nat):∀ i s q,Q0b d 0 i=.ok (s,q)→(Q0m K d p i).2.2=q:=by
 intro i
 induction i with
 | zero =>
  intro s q h
  simp only [Q0b,Except.ok.injEq,Prod.mk.injEq] at h
  exact h.2
 | succ i ih =>
  intro s q h
  rw [Q0b] at h
  cases hx:Q0b d 0 i with
  | error e=>rw [hx] at h; simp at h
  | ok z =>
   obtain ⟨s',q'⟩:=z
   rw [hx] at h
   simp only at h
   have h1:=ih s' q' hx
   cases hy:Q05 d q' with
   | error e=>rw [hy] at h; simp at h
   | ok z =>
    obtain ⟨x,t⟩:=z
    rw [hy] at h
    simp only [Except.ok.injEq,Prod.mk.injEq] at h
    rw [Q0m,h1,hy]
    exact h.2
theorem Q90 (K:List (ByteArray × Nat)) (d:ByteArray) (t p:Nat) (h:Q1Y t d) (hn:Q01 t≠0) :
  (∀ i,i < Q01 t→∃ x u,Q05 d (Q0m K d p i).2.2=.ok (x,u))∧(Q0m K d p (Q01 t)).2.2+Q1I t=d.size:=by
 have h2:=h.2
 have key:wn d 0 d.size (Q01 t) (Q1I t)=some d:=by
  unfold Q1n at h2
  unfold Q01 at hn ⊢
  unfold Q1I
  by_cases c1:t=2∨t=5∨t=12
  ·rw [if_pos c1] at h2 ⊢
   rw [if_pos c1]
   exact h2
  ·rw [if_neg c1] at h2 hn ⊢
   rw [if_neg c1]
   by_cases c2:t=6
   ·rw [if_pos c2] at h2 ⊢
    rw [if_pos c2]
    exact h2
   ·rw [if_neg c2] at hn
    exact absurd rfl hn
 unfold wn at key
 cases hx:Q0b d 0 (Q01 t) with
 | error e=>rw [hx] at key; simp at key
 | ok z =>
  obtain ⟨s,q⟩:=z
  rw [hx] at key
  simp only at key
  refine ⟨fun i hi=>?_,?_⟩
  ·obtain ⟨s',q',x,u,h3,h4⟩:=Q9W d 0 _ s q hx i hi
   rw [QdG K d p i s' q' h3]
   exact ⟨x,u,h4⟩
  ·rw [QdG K d p _ s q hx]
   by_cases c:q+Q1I t=0+d.size
   ·omega
   ·rw [if_neg c] at key; simp at key
theorem Q5D (K:List (ByteArray × Nat)) (d:ByteArray) (p i:Nat) (x:ByteArray) (u:Nat) (h:Q05 d (Q0m K d p i).2.2=.ok (x,u)) :
  Q0m K d p (i+1)=((Q0m K d p i).1++(Q1p (Q0m K d p i).2.1 x (p+(Q0m K d p i).1.size)).1,(Q0m K d p i).2.1++(Q1p (Q0m K d p i).2.1 x (p+(Q0m K d p i).1.size)).2,(Q0m K d p i).2.2+u):=by
 rw [Q0m,h]
theorem Q8y (K:List (ByteArray × Nat)) (d:ByteArray) (p:Nat) (hK:KOk K):∀ i,(Q0m K d p i).1.size≤256 * i∧(Q0m K d p i).2.1.length≤K.length+(Q0m K d p i).1.size∧KOk (Q0m K d p i).2.1∧(Q0m K d p i).2.2≤d.size:=by
 intro i
 induction i with
 | zero=>exact ⟨Nat.le_refl _,Nat.le_refl _,hK,Nat.zero_le _⟩
 | succ i ih =>
  obtain ⟨h1,h2,h3,h4⟩:=ih
  cases hx:Q05 d (Q0m K d p i).2.2 with
  | error e =>
   have e1:Q0m K d p (i+1)=Q0m K d p i:=by rw [Q0m,hx]
   rw [e1]
   exact ⟨by omega,h2,h3,h4⟩
  | ok z =>
   obtain ⟨x,u⟩:=z
   rw [Q5D K d p i x u hx]
   have hb:=Q0F d _ x u hx
   have hl:=Q58 (Q0m K d p i).2.1 x (p+(Q0m K d p i).1.size)
   have ho:=QdM (Q0m K d p i).2.1 x (p+(Q0m K d p i).1.size)
   simp only [ByteArray.size_append,List.length_append]
   exact ⟨by omega,by omega,h3.append ho,by omega⟩
theorem Q5x (t:Nat):Q01 t≤2:=by unfold Q01; split <;> (try split) <;> omega
theorem Q7X (K:List (ByteArray × Nat)) (d:ByteArray) (t p:Nat) (hK:KOk K):(Q1B K d t p).1.size≤512+d.size∧(Q1B K d t p).2.length≤K.length+(Q1B K d t p).1.size∧KOk (Q1B K d t p).2:=by
 have h1:=Q8y K d p hK (Q01 t)
 have h2:=Q5x t
 unfold Q1B
 simp only [ByteArray.size_append]
 have h3:(d.extract (Q0m K d p (Q01 t)).2.2 d.size).size≤d.size:=by rw [ByteArray.size_extract]; omega
 exact ⟨by omega,by omega,h1.2.2.1⟩
theorem QlS (K:List (ByteArray × Nat)) (s:ByteArray) (p:Nat):∀ f k,Tl s k→(shF K s p f k).1.size≤s.size - k:=by
 intro f
 induction f with
 | zero=>intro k _; exact Nat.zero_le _
 | succ f ih =>
  intro k ht
  have hlt:=ht.lt
  by_cases c:s.size < k+2
  ·rw [shF,if_pos c]
   show (s.extract k s.size).size≤_
   rw [ByteArray.size_extract]; omega
  ·obtain ⟨h1,h2,h3,h4⟩:=Qcp ht c
   cases hf:Q2c K (s.extract k s.size) with
   | some q=>rw [Qam K s p f k q c hf]; show (wd _).size≤_; rw [Q00]; omega
   | none =>
    rw [Qal K s p f k c hf]
    have:=ih _ h4
    simp only [ByteArray.size_append]
    have he:(s.extract k (k+1+bt s k)).size=1+bt s k:=by rw [ByteArray.size_extract]; omega
    omega
theorem Qan (K:List (ByteArray × Nat)) (s:ByteArray) (p:Nat) (h:Q09 s=true):(Q1p K s p).1.size≤s.size:=by
 have:=QlS K s p (s.size+1) 0 (Qaw h).1
 unfold Q1p
 omega
theorem Qmq (K:List (ByteArray × Nat)) (d:ByteArray) (p:Nat):∀ i,(∀ j,j < i→∃ x,Q05 d (Q0m K d p j).2.2=.ok (x,x.size))→(Q0m K d p i).1.size≤(Q0m K d p i).2.2:=by
 intro i
 induction i with
 | zero=>intro _; exact Nat.le_refl _
 | succ i ih =>
  intro h
  have h1:=ih (fun j hj=>h j (by omega))
  obtain ⟨x,hx⟩:=h i (by omega)
  rw [Q5D K d p i x x.size hx]
  have h2:=Qan (Q0m K d p i).2.1 x (p+(Q0m K d p i).1.size) (Q1G d _ x _ hx)
  simp only [ByteArray.size_append]
  omega
theorem Q4b (K:List (ByteArray × Nat)) (d:ByteArray) (t p:Nat) (h:Q1Y t d):∀ j,j < Q01 t→∃ x,Q05 d (Q0m K d p j).2.2=.ok (x,x.size):=by
 intro j hj
 by_cases c1:t=2∨t=5∨t=12
 ·have e1:Q01 t=1:=by unfold Q01; rw [if_pos c1]
  have e2:j=0:=by omega
  subst e2
  have hw:=(Q5c d t c1).1 h
  have h3:=Q3N d ⟨#[]⟩ hw
  have e:d++(⟨#[]⟩:ByteArray)=d:=by apply ByteArray.ext; simp [ByteArray.data_append]
  rw [e] at h3
  exact ⟨d,h3⟩
 ·have e0:t=6:=by unfold Q01 at hj; rw [if_neg c1] at hj; split at hj <;> omega
  subst e0
  obtain ⟨x,y,r,hd,hx,hy,hr⟩:=(Q6I d).1 h
  have h1:=Q3N x (y++r) hx
  rw [←Q07,←hd] at h1
  have h2:=Qc7 x y r hy
  rw [←hd] at h2
  have hj2:j < 2:=hj
  by_cases ej:j=0
  ·subst ej; exact ⟨x,h1⟩
  ·have e2:j=1:=by omega
   subst e2
   have h3:(Q0m K d p 1).2.2=x.size:=by
    have h1':Q05 d (Q0m K d p 0).2.2=.ok (x,x.size):=h1
    rw [Q5D K d p 0 x x.size h1']
    show 0+x.size=_
    omega
   rw [h3]
   exact ⟨y,h2⟩
theorem Qai (K:List (ByteArray × Nat)) (d:ByteArray) (t p:Nat) (h:Q1Y t d):(Q1B K d t p).1.size≤d.size:=by
 have h1:=Qmq K d p (Q01 t) (Q4b K d t p h)
 unfold Q1B
 simp only [ByteArray.size_append]
 rw [ByteArray.size_extract]
 by_cases c:Q01 t=0
 ·rw [c] at h1 ⊢
  show 0+(min d.size d.size - 0)≤_
  omega
 ·have h2:=(Q90 K d t p h c).2
  omega
def Q3n (st:St):Prop:=st.2.length≤st.1.size∧KOk st.2
theorem Q3T {st:St} (h:Q3n st) (s:ByteArray):Q3n (Q30 st s)∧(Q30 st s).1.size≤st.1.size+s.size+1:=by
 have h1:=Q58 st.2 s st.1.size
 have h2:=QdM st.2 s st.1.size
 unfold Q30 Q3n
 simp only [ByteArray.size_append,List.length_append]
 exact ⟨⟨by have:=h.1; omega,h.2.append h2⟩,by omega⟩
theorem Q2n {st:St} (h:Q3n st) (s:ByteArray):Q3n (Q2o st s)∧(Q2o st s).1.size=st.1.size+s.size:=by
 unfold Q2o Q3n
 simp only [ByteArray.size_append]
 exact ⟨⟨by have:=h.1; omega,h.2⟩,trivial⟩
theorem Qhv {st:St} (h:Q3n st) (q:Qs):Q3n (Qb5 st q)∧(Qb5 st q).1.size≤st.1.size+q.name.size+5:=by
 have h1:=Q3T h q.name
 have h2:=Q2n h1.1 (wd q.ty)
 have h3:=Q2n h2.1 (wd q.cl)
 rw [Q00] at h2 h3
 exact ⟨h3.1,by unfold Qb5; omega⟩
theorem QaE {st:St} (h:Q3n st) (x:Rc):Q3n (Q1s st x)∧(Q1s st x).1.size≤st.1.size+x.name.size+9:=by
 have h1:=Q3T h x.name
 have h2:=Q2n h1.1 (wd x.ty)
 have h3:=Q2n h2.1 (wd x.cl)
 have h4:=Q2n h3.1 (wd (x.ttl / 65536))
 have h5:=Q2n h4.1 (wd (x.ttl % 65536))
 rw [Q00] at h2 h3 h4 h5
 exact ⟨h5.1,by unfold Q1s; omega⟩
theorem Qhw {st:St} (h:Q3n st) (x:Rc):Q3n (Q6K st x)∧(Q6K st x).1.size≤st.1.size+x.name.size+x.data.size+523:=by
 have h1:=QaE h x
 have h2:=Q7X (Q1s st x).2 x.data x.ty ((Q1s st x).1.size+2) h1.1.2
 have h3:=h1.1.1
 unfold Q6K Q3n
 simp only [ByteArray.size_append,Q00]
 exact ⟨⟨by omega,h2.2.2⟩,by omega⟩
theorem Q3j {x:RI} (h:Q2l x):x.nat.name.size≤255∧x.nat.data.size≤65535∧x.nat.ty≤65535∧x.nat.cl≤65535∧x.nat.ttl≤4294967295∧Q09 x.nat.name=true∧Q1Y x.nat.ty x.nat.data:=by
 obtain ⟨h1,h2,h3,h4,h5⟩:=h
 unfold Q1J at h2 h3
 exact ⟨(Q1j h1).2,h5.1,by show x.ty.toNat≤_; omega,by show x.cl.toNat≤_; omega,by show x.ttl.toNat≤_; omega,h1,h5⟩
theorem Q6C {q:QI} (h:Q2J q):q.nat.name.size≤255∧q.nat.ty≤65535∧q.nat.cl≤65535∧Q09 q.nat.name=true:=by
 obtain ⟨h1,h2,h3⟩:=h
 unfold Q1J at h2 h3
 exact ⟨(Q1j h1).2,by show q.ty.toNat≤_; omega,by show q.cl.toNat≤_; omega,h1⟩
theorem Qff {st:St} (h:Q3n st) {x:RI} (hx:Q2l x) (hB:st.1.size≤140000):Q3n (Q08 st x.nat)∧(Q08 st x.nat).1.size≤140000:=by
 unfold Q08
 by_cases c:65535 < st.1.size
 ·rw [if_pos c]; exact ⟨h,hB⟩
 ·rw [if_neg c]
  obtain ⟨h1,h2,_⟩:=Q3j hx
  have h3:=Qhw h x.nat
  exact ⟨h3.1,by omega⟩
theorem Qfe {st:St} (h:Q3n st) {q:QI} (hx:Q2J q) (hB:st.1.size≤140000):Q3n (Q0J st q.nat)∧(Q0J st q.nat).1.size≤140000:=by
 unfold Q0J
 by_cases c:65535 < st.1.size
 ·rw [if_pos c]; exact ⟨h,hB⟩
 ·rw [if_neg c]
  obtain ⟨h1,h2,_⟩:=Q6C hx
  have h3:=Qhv h q.nat
  exact ⟨h3.1,by omega⟩
theorem Q2a {st:St} (h:Q3n st) (hB:st.1.size≤140000):∀ (l:List RI),(∀ x,x∈l→Q2l x)→Q3n ((l.map RI.nat).foldl Q08 st)∧((l.map RI.nat).foldl Q08 st).1.size≤140000:=by
 intro l
 induction l generalizing st with
 | nil=>intro _; exact ⟨h,hB⟩
 | cons x l ih =>
  intro hl
  obtain ⟨h1,h2⟩:=Qff h (hl x (by simp)) hB
  exact ih h1 h2 (fun y hy=>hl y (List.mem_cons_of_mem _ hy))
theorem Q4r {st:St} (h:Q3n st) (hB:st.1.size≤140000):∀ (l:List QI),(∀ x,x∈l→Q2J x)→Q3n ((l.map QI.nat).foldl Q0J st)∧((l.map QI.nat).foldl Q0J st).1.size≤140000:=by
 intro l
 induction l generalizing st with
 | nil=>intro _; exact ⟨h,hB⟩
 | cons x l ih =>
  intro hl
  obtain ⟨h1,h2⟩:=Qfe h (hl x (by simp)) hB
  exact ih h1 h2 (fun y hy=>hl y (List.mem_cons_of_mem _ hy))
theorem Q1L {l:List RI} {part:Nat} (h:Q1H l part):∀ x,x∈l→Q2l x:=fun x hx=>by
 obtain ⟨i,hi,rfl⟩:=List.getElem_of_mem hx
 exact (h.2 i hi).1
theorem Q43 {l:List QI} (h:Q7a l):∀ x,x∈l→Q2J x:=fun x hx=>by
 obtain ⟨i,hi,rfl⟩:=List.getElem_of_mem hx
 exact h.2 i hi
end Go.Proofs.YtdhobdmhnocbgabGreatDoor.Zr
