import Derived.Test.YtdhobdmhnocbgabGreatDoorSMsgs
import Derived.Test.YtdhobdmhnocbgabGreatDoorSWritY
namespace Go.Proofs.YtdhobdmhnocbgabGreatDoor.Zr
open Go.Proofs.YtdhobdmhnocbgabGreatDoor
theorem Qag (d:ByteArray) (k:Nat):∀ i s q,Q0b d k i=.ok (s,q)→∀ j,j < i→∃ s' q' x t,Q0b d k j=.ok (s',q')∧Q04 d q'=.ok (x,t):=by
 intro i
 induction i with
 | zero=>intro s q _ j hj; omega
 | succ i ih =>
  intro s q h j hj
  rw [Q0b] at h
  cases hx:Q0b d k i with
  | error e=>rw [hx] at h; simp at h
  | ok z =>
   obtain ⟨s',q'⟩:=z
   rw [hx] at h
   simp only at h
   by_cases e:j=i
   ·subst e
    cases hy:Q04 d q' with
    | error e=>rw [hy] at h; simp at h
    | ok z =>
     obtain ⟨x,t⟩:=z
     exact ⟨s',q',x,t,hx,hy⟩
   ·exact ih s' q' hx j (by omega)
theorem QdE (K:List (ByteArray × Nat)) (d:ByteArray) (p:Nat):∀ i s q,Q0b d 0 i=.ok (s,q)→(Q0m K d p i).2.2=q:=by
 intro i
 induction i with
 | zero =>
  intro s q h
  simp only [Q0b,Except.ok.injEq,Prod.mk.injEq] at h
  exact h.2
 | succ i ih =>
  intro s q h
  rw [Q0b] at h
  cases hx:Q0b d 0 i with
  | error e=>rw [hx] at h; simp at h
  | ok z =>
   obtain ⟨s',q'⟩:=z
   rw [hx] at h
   simp only at h
   have h1:=ih s' q' hx
   cases hy:Q04 d q' with
   | error e=>rw [hy] at h; simp at h
   | ok z =>
    obtain ⟨x,t⟩:=z
    rw [hy] at h
    simp only [Except.ok.injEq,Prod.mk.injEq] at h
    rw [Q0m,h1,hy]
    exact h.2
theorem Q8F (K:List (ByteArray × Nat)) (d:ByteArray) (t p:Nat) (h:Q1W t d) (hn:Q00 t≠0) :
  (∀ i,i < Q00 t→∃ x u,Q04 d (Q0m K d p i).2.2=.ok (x,u))∧(Q0m K d p (Q00 t)).2.2+Q1E t=d.size:=by
 have h2:=h.2
 have key:wn d 0 d.size (Q00 t) (Q1E t)=some d:=by
  unfold Q1l at h2
  unfold Q00 at hn ⊢
  unfold Q1E
  by_cases c1:t=2∨t=5∨t=12
  ·rw [if_pos c1] at h2 ⊢
   rw [if_pos c1]
   exact h2
  ·rw [if_neg c1] at h2 hn ⊢
   rw [if_neg c1]
   by_cases c2:t=6
   ·rw [if_pos c2] at h2 ⊢
    rw [if_pos c2]
    exact h2
   ·rw [if_neg c2] at hn
    exact absurd rfl hn
 unfold wn at key
 cases hx:Q0b d 0 (Q00 t) with
 | error e=>rw [hx] at key; simp at key
 | ok z =>
  obtain ⟨s,q⟩:=z
  rw [hx] at key
  simp only at key
  refine ⟨fun i hi=>?_,?_⟩
  ·obtain ⟨s',q',x,u,h3,h4⟩:=Qag d 0 _ s q hx i hi
   rw [QdE K d p i s' q' h3]
   exact ⟨x,u,h4⟩
  ·rw [QdE K d p _ s q hx]
   by_cases c:q+Q1E t=0+d.size
   ·omega
   ·rw [if_neg c] at key; simp at key
theorem Q5n (K:List (ByteArray × Nat)) (d:ByteArray) (p i:Nat) (x:ByteArray) (u:Nat) (h:Q04 d (Q0m K d p i).2.2=.ok (x,u)) :
  Q0m K d p (i+1)=((Q0m K d p i).1++(Q1m (Q0m K d p i).2.1 x (p+(Q0m K d p i).1.size)).1,(Q0m K d p i).2.1++(Q1m (Q0m K d p i).2.1 x (p+(Q0m K d p i).1.size)).2,(Q0m K d p i).2.2+u):=by
 rw [Q0m,h]
theorem Q8v (K:List (ByteArray × Nat)) (d:ByteArray) (p:Nat) (hK:KOk K):∀ i,(Q0m K d p i).1.size≤256 * i∧(Q0m K d p i).2.1.length≤K.length+(Q0m K d p i).1.size∧KOk (Q0m K d p i).2.1∧(Q0m K d p i).2.2≤d.size:=by
 intro i
 induction i with
 | zero=>exact ⟨Nat.le_refl _,Nat.le_refl _,hK,Nat.zero_le _⟩
 | succ i ih =>
  obtain ⟨h1,h2,h3,h4⟩:=ih
  cases hx:Q04 d (Q0m K d p i).2.2 with
  | error e =>
   have e1:Q0m K d p (i+1)=Q0m K d p i:=by rw [Q0m,hx]
   rw [e1]
   exact ⟨by omega,h2,h3,h4⟩
  | ok z =>
   obtain ⟨x,u⟩:=z
   rw [Q5n K d p i x u hx]
   have hb:=Q0E d _ x u hx
   have hl:=Q54 (Q0m K d p i).2.1 x (p+(Q0m K d p i).1.size)
   have ho:=QdA (Q0m K d p i).2.1 x (p+(Q0m K d p i).1.size)
   simp only [ByteArray.size_append,List.length_append]
   exact ⟨by omega,by omega,h3.append ho,by omega⟩
theorem Q5p (t:Nat):Q00 t≤2:=by unfold Q00; split <;> (try split) <;> omega
theorem Q7W (K:List (ByteArray × Nat)) (d:ByteArray) (t p:Nat) (hK:KOk K):(Q1x K d t p).1.size≤512+d.size∧(Q1x K d t p).2.length≤K.length+(Q1x K d t p).1.size∧KOk (Q1x K d t p).2:=by
 have h1:=Q8v K d p hK (Q00 t)
 have h2:=Q5p t
 unfold Q1x
 simp only [ByteArray.size_append]
 have h3:(d.extract (Q0m K d p (Q00 t)).2.2 d.size).size≤d.size:=by rw [ByteArray.size_extract]; omega
 exact ⟨by omega,by omega,h1.2.2.1⟩
theorem QlU (K:List (ByteArray × Nat)) (s:ByteArray) (p:Nat):∀ f k,Tl s k→(shF K s p f k).1.size≤s.size - k:=by
 intro f
 induction f with
 | zero=>intro k _; exact Nat.zero_le _
 | succ f ih =>
  intro k ht
  have hlt:=ht.lt
  by_cases c:s.size < k+2
  ·rw [shF,if_pos c]
   show (s.extract k s.size).size≤_
   rw [ByteArray.size_extract]; omega
  ·obtain ⟨h1,h2,h3,h4⟩:=QbY ht c
   cases hf:Q2c K (s.extract k s.size) with
   | some q=>rw [Q9T K s p f k q c hf]; show (wd _).size≤_; rw [Q02]; omega
   | none =>
    rw [Q9g K s p f k c hf]
    have:=ih _ h4
    simp only [ByteArray.size_append]
    have he:(s.extract k (k+1+bt s k)).size=1+bt s k:=by rw [ByteArray.size_extract]; omega
    omega
theorem Qac (K:List (ByteArray × Nat)) (s:ByteArray) (p:Nat) (h:Q08 s=true):(Q1m K s p).1.size≤s.size:=by
 have:=QlU K s p (s.size+1) 0 (Q9m h).1
 unfold Q1m
 omega
theorem Qmj (K:List (ByteArray × Nat)) (d:ByteArray) (p:Nat):∀ i,(∀ j,j < i→∃ x,Q04 d (Q0m K d p j).2.2=.ok (x,x.size))→(Q0m K d p i).1.size≤(Q0m K d p i).2.2:=by
 intro i
 induction i with
 | zero=>intro _; exact Nat.le_refl _
 | succ i ih =>
  intro h
  have h1:=ih (fun j hj=>h j (by omega))
  obtain ⟨x,hx⟩:=h i (by omega)
  rw [Q5n K d p i x x.size hx]
  have h2:=Qac (Q0m K d p i).2.1 x (p+(Q0m K d p i).1.size) (Q1G d _ x _ hx)
  simp only [ByteArray.size_append]
  omega
theorem Q49 (K:List (ByteArray × Nat)) (d:ByteArray) (t p:Nat) (h:Q1W t d):∀ j,j < Q00 t→∃ x,Q04 d (Q0m K d p j).2.2=.ok (x,x.size):=by
 intro j hj
 by_cases c1:t=2∨t=5∨t=12
 ·have e1:Q00 t=1:=by unfold Q00; rw [if_pos c1]
  have e2:j=0:=by omega
  subst e2
  have hw:=(Q53 d t c1).1 h
  have h3:=Q3G d ⟨#[]⟩ hw
  have e:d++(⟨#[]⟩:ByteArray)=d:=by apply ByteArray.ext; simp [ByteArray.data_append]
  rw [e] at h3
  exact ⟨d,h3⟩
 ·have e0:t=6:=by unfold Q00 at hj; rw [if_neg c1] at hj; split at hj <;> omega
  subst e0
  obtain ⟨x,y,r,hd,hx,hy,hr⟩:=(Q6m d).1 h
  have h1:=Q3G x (y++r) hx
  rw [←Q07,←hd] at h1
  have h2:=Qcq x y r hy
  rw [←hd] at h2
  have hj2:j < 2:=hj
  by_cases ej:j=0
  ·subst ej; exact ⟨x,h1⟩
  ·have e2:j=1:=by omega
   subst e2
   have h3:(Q0m K d p 1).2.2=x.size:=by
    have h1':Q04 d (Q0m K d p 0).2.2=.ok (x,x.size):=h1
    rw [Q5n K d p 0 x x.size h1']
    show 0+x.size=_
    omega
   rw [h3]
   exact ⟨y,h2⟩
theorem Q9P (K:List (ByteArray × Nat)) (d:ByteArray) (t p:Nat) (h:Q1W t d):(Q1x K d t p).1.size≤d.size:=by
 have h1:=Qmj K d p (Q00 t) (Q49 K d t p h)
 unfold Q1x
 simp only [ByteArray.size_append]
 rw [ByteArray.size_extract]
 by_cases c:Q00 t=0
 ·rw [c] at h1 ⊢
  show 0+(min d.size d.size - 0)≤_
  omega
 ·have h2:=(Q8F K d t p h c).2
  omega
def Q3u (st:St):Prop:=st.2.length≤st.1.size∧KOk st.2
theorem Q3R {st:St} (h:Q3u st) (s:ByteArray):Q3u (Q2Z st s)∧(Q2Z st s).1.size≤st.1.size+s.size+1:=by
 have h1:=Q54 st.2 s st.1.size
 have h2:=QdA st.2 s st.1.size
 unfold Q2Z Q3u
 simp only [ByteArray.size_append,List.length_append]
 exact ⟨⟨by have:=h.1; omega,h.2.append h2⟩,by omega⟩
theorem Q2n {st:St} (h:Q3u st) (s:ByteArray):Q3u (Q2o st s)∧(Q2o st s).1.size=st.1.size+s.size:=by
 unfold Q2o Q3u
 simp only [ByteArray.size_append]
 exact ⟨⟨by have:=h.1; omega,h.2⟩,trivial⟩
theorem Qhj {st:St} (h:Q3u st) (q:Qs):Q3u (QaV st q)∧(QaV st q).1.size≤st.1.size+q.name.size+5:=by
 have h1:=Q3R h q.name
 have h2:=Q2n h1.1 (wd q.ty)
 have h3:=Q2n h2.1 (wd q.cl)
 rw [Q02] at h2 h3
 exact ⟨h3.1,by unfold QaV; omega⟩
theorem Q9N {st:St} (h:Q3u st) (x:Rc):Q3u (Q1q st x)∧(Q1q st x).1.size≤st.1.size+x.name.size+9:=by
 have h1:=Q3R h x.name
 have h2:=Q2n h1.1 (wd x.ty)
 have h3:=Q2n h2.1 (wd x.cl)
 have h4:=Q2n h3.1 (wd (x.ttl / 65536))
 have h5:=Q2n h4.1 (wd (x.ttl % 65536))
 rw [Q02] at h2 h3 h4 h5
 exact ⟨h5.1,by unfold Q1q; omega⟩
theorem Qh9 {st:St} (h:Q3u st) (x:Rc):Q3u (Q6I st x)∧(Q6I st x).1.size≤st.1.size+x.name.size+x.data.size+523:=by
 have h1:=Q9N h x
 have h2:=Q7W (Q1q st x).2 x.data x.ty ((Q1q st x).1.size+2) h1.1.2
 have h3:=h1.1.1
 unfold Q6I Q3u
 simp only [ByteArray.size_append,Q02]
 exact ⟨⟨by omega,h2.2.2⟩,by omega⟩
theorem Q3h {x:RI} (h:Q2j x):x.nat.name.size≤255∧x.nat.data.size≤65535∧x.nat.ty≤65535∧x.nat.cl≤65535∧x.nat.ttl≤4294967295∧Q08 x.nat.name=true∧Q1W x.nat.ty x.nat.data:=by
 obtain ⟨h1,h2,h3,h4,h5⟩:=h
 unfold Q1F at h2 h3
 exact ⟨(Q1j h1).2,h5.1,by show x.ty.toNat≤_; omega,by show x.cl.toNat≤_; omega,by show x.ttl.toNat≤_; omega,h1,h5⟩
theorem Q6x {q:QI} (h:Q2J q):q.nat.name.size≤255∧q.nat.ty≤65535∧q.nat.cl≤65535∧Q08 q.nat.name=true:=by
 obtain ⟨h1,h2,h3⟩:=h
 unfold Q1F at h2 h3
 exact ⟨(Q1j h1).2,by show q.ty.toNat≤_; omega,by show q.cl.toNat≤_; omega,h1⟩
theorem Qff {st:St} (h:Q3u st) {x:RI} (hx:Q2j x) (hB:st.1.size≤140000):Q3u (Q09 st x.nat)∧(Q09 st x.nat).1.size≤140000:=by
 unfold Q09
 by_cases c:65535 < st.1.size
 ·rw [if_pos c]; exact ⟨h,hB⟩
 ·rw [if_neg c]
  obtain ⟨h1,h2,_⟩:=Q3h hx
  have h3:=Qh9 h x.nat
  exact ⟨h3.1,by omega⟩
theorem Qfg {st:St} (h:Q3u st) {q:QI} (hx:Q2J q) (hB:st.1.size≤140000):Q3u (Q0I st q.nat)∧(Q0I st q.nat).1.size≤140000:=by
 unfold Q0I
 by_cases c:65535 < st.1.size
 ·rw [if_pos c]; exact ⟨h,hB⟩
 ·rw [if_neg c]
  obtain ⟨h1,h2,_⟩:=Q6x hx
  have h3:=Qhj h q.nat
  exact ⟨h3.1,by omega⟩
theorem Q2b {st:St} (h:Q3u st) (hB:st.1.size≤140000):∀ (l:List RI),(∀ x,x∈l→Q2j x)→Q3u ((l.map RI.nat).foldl Q09 st)∧((l.map RI.nat).foldl Q09 st).1.size≤140000:=by
 intro l
 induction l generalizing st with
 | nil=>intro _; exact ⟨h,hB⟩
 | cons x l ih =>
  intro hl
  obtain ⟨h1,h2⟩:=Qff h (hl x (by simp)) hB
  exact ih h1 h2 (fun y hy=>hl y (List.mem_cons_of_mem _ hy))
theorem Q4x {st:St} (h:Q3u st) (hB:st.1.size≤140000):∀ (l:List QI),(∀ x,x∈l→Q2J x)→Q3u ((l.map QI.nat).foldl Q0I st)∧((l.map QI.nat).foldl Q0I st).1.size≤140000:=by
 intro l
 induction l generalizing st with
 | nil=>intro _; exact ⟨h,hB⟩
 | cons x l ih =>
  intro hl
  obtain ⟨h1,h2⟩:=Qfg h (hl x (by simp)) hB
  exact ih h1 h2 (fun y hy=>hl y (List.mem_cons_of_mem _ hy))
theorem Q1I {l:List RI} {part:Nat} (h:Q1D l part):∀ x,x∈l→Q2j x:=fun x hx=>by
 obtain ⟨i,hi,rfl⟩:=List.getElem_of_mem hx
 exact (h.2 i hi).1
theorem Q3Y {l:List QI} (h:Q74 l):∀ x,x∈l→Q2J x:=fun x hx=>by
 obtain ⟨i,hi,rfl⟩:=List.getElem_of_mem hx
 exact h.2 i hi
end Go.Proofs.YtdhobdmhnocbgabGreatDoor.Zr
