import Derived.Test.YtdhobdmhnocbgabGreatDoorSKeepA
import Derived.Test.YtdhobdmhnocbgabGreatDoorSRefP
namespace Go.Proofs.YtdhobdmhnocbgabGreatDoor
open Go.RowKit Zr
theorem QgT (b:ByteArray) (k:Nat):∀ e j S P,Q0b b k (j+e)=.ok (S,P)→∃ s p,Q0b b k j=.ok (s,p)∧Pre s S:=by
 intro e
 induction e with
 | zero=>intro j S P h; exact ⟨S,P,h,Pre.refl _⟩
 | succ e ih =>
  intro j S P h
  rw [←Nat.add_assoc,Q0b] at h
  cases h1:Q0b b k (j+e) with
  | error x=>rw [h1] at h; simp at h
  | ok q =>
   obtain ⟨s0,p0⟩:=q
   rw [h1] at h
   simp only at h
   cases h2:Q05 b p0 with
   | error x=>rw [h2] at h; simp at h
   | ok q2 =>
    obtain ⟨x,u⟩:=q2
    rw [h2] at h
    simp only [Except.ok.injEq,Prod.mk.injEq] at h
    obtain ⟨rfl,_⟩:=h
    obtain ⟨s,p,h3,h4⟩:=ih j s0 p0 h1
    exact ⟨s,p,h3,h4.trans (Qa4 _ _)⟩
theorem Q75 (b:ByteArray) (k m j:Nat) (hj:j < m) (S:ByteArray) (P:Nat) (h:Q0b b k m=.ok (S,P)) (s:ByteArray) (p:Nat) (h0:Q0b b k j=.ok (s,p)) :
  ∃ x u,Q05 b p=.ok (x,u)∧Q0b b k (j+1)=.ok (s++x,p+u)∧Pre (s++x) S:=by
 obtain ⟨s',q',x,u,h1,h2⟩:=Q9W b k m S P h j hj
 rw [h0] at h1
 simp only [Except.ok.injEq,Prod.mk.injEq] at h1
 obtain ⟨rfl,rfl⟩:=h1
 have h3:Q0b b k (j+1)=.ok (s++x,p+u):=by rw [Q0b,h0]; simp only; rw [h2]
 obtain ⟨s2,p2,h4,h5⟩:=QgT b k (m - (j+1)) (j+1) S P (by rw [show j+1+(m - (j+1))=m by omega]; exact h)
 rw [h3] at h4
 simp only [Except.ok.injEq,Prod.mk.injEq] at h4
 obtain ⟨rfl,_⟩:=h4
 exact ⟨x,u,h2,h3,h5⟩
def QmE (t:Nat) (r:ByteArray):Prop :=
 (t=1→r.size=4)∧(t=28→r.size=16)∧(t=6→r.size=20)∧(t=2∨t=5∨t=12→r.size=0)∧(t=33→7≤r.size∧Q09 (r.extract 6 r.size)=true)
theorem Qe0 (b:ByteArray) (k n m more:Nat) (d:ByteArray) (h:wn b k n m more=some d):∃ S P,Q0b b k m=.ok (S,P)∧P+more=k+n∧d=S++b.extract P (k+n):=by
 unfold wn at h
 cases h1:Q0b b k m with
 | error x=>rw [h1] at h; simp at h
 | ok q =>
  obtain ⟨S,P⟩:=q
  rw [h1] at h
  simp only at h
  by_cases c:P+more=k+n
  ·rw [if_pos c] at h
   simp only [Option.some.injEq] at h
   rw [c] at h
   exact ⟨S,P,rfl,c,h.symm⟩
  ·rw [if_neg c] at h; simp at h
theorem QfA (s:ByteArray) (k c d:Nat) (hk:k≤s.size) (hc:c≤d) (hd:k+d≤s.size):(s.extract k s.size).extract c d=s.extract (k+c) (k+d):=by
 have h1:(s.extract k s.size).size=s.size - k:=by rw [ByteArray.size_extract]; omega
 have h2:((s.extract k s.size).extract c d).size=d - c:=by rw [ByteArray.size_extract,h1]; omega
 have h3:(s.extract (k+c) (k+d)).size=d - c:=by rw [ByteArray.size_extract]; omega
 apply Q3b
 ·rw [h2,h3]
 ·intro i hi
  rw [h2] at hi
  rw [Q2p _ c d i (by omega) (by omega),Q2p s k s.size (c+i) (by omega) (Nat.le_refl _),Q2p s (k+c) (k+d) i (by omega) (by omega)]
  congr 1; omega
theorem Pre.rest {A x D:ByteArray} (h:Pre (A++x) D):A.size+x.size≤D.size∧Pre x (D.extract A.size D.size)∧(D.extract A.size D.size).extract 0 x.size=x∧(D.extract A.size D.size).extract x.size (D.extract A.size D.size).size=D.extract (A++x).size D.size:=by
 have h1:=h.1
 rw [ByteArray.size_append] at h1
 have hs:(D.extract A.size D.size).size=D.size - A.size:=by rw [ByteArray.size_extract]; omega
 refine ⟨h1,⟨by omega,fun i hi=>?_⟩,?_,?_⟩
 ·rw [Q2p _ _ _ i (by omega) (Nat.le_refl _),h.at i hi]
 ·rw [QfA D A.size 0 x.size (by omega) (by omega) h1,Nat.add_zero]
  exact h.cut
 ·rw [hs,QfA D A.size x.size (D.size - A.size) (by omega) (by omega) (by omega),ByteArray.size_append,show A.size+(D.size - A.size)=D.size by omega]
theorem Q8u (b:ByteArray) (part k:Nat):∀ m L P,Q0V b part k m=.ok (L,P)→L.length=m:=by
 intro m
 induction m with
 | zero=>intro L P h; simp only [Q0V,Except.ok.injEq,Prod.mk.injEq] at h; rw [←h.1]; rfl
 | succ m ih =>
  intro L P h
  rw [Q0V] at h
  cases h1:Q0V b part k m with
  | error x=>rw [h1] at h; simp at h
  | ok q =>
   obtain ⟨l,p⟩:=q
   rw [h1] at h
   simp only at h
   cases h2:Q0U b p with
   | error x=>rw [h2] at h; simp at h
   | ok q2 =>
    obtain ⟨x,p'⟩:=q2
    rw [h2] at h
    simp only at h
    split at h
    ·simp at h
    ·simp only [Except.ok.injEq,Prod.mk.injEq] at h
     rw [←h.1,List.length_append,ih l p h1]
     rfl
theorem QkI (b:ByteArray) (part k:Nat):∀ m L P,Q0V b part k m=.ok (L,P)→∀ j (hj:j < L.length),∃ p p',Q0V b part k j=.ok (L.take j,p)∧Q0U b p=.ok (L[j],p')∧Q0V b part k (j+1)=.ok (L.take (j+1),p')∧Q65 (L.take j) L[j] part=false:=by
 intro m
 induction m with
 | zero=>intro L P h j hj; have:=Q8u b part k 0 L P h; omega
 | succ m ih =>
  intro L P h j hj
  have hl:=Q8u b part k (m+1) L P h
  have h0:=h
  rw [Q0V] at h
  cases h1:Q0V b part k m with
  | error x=>rw [h1] at h; simp at h
  | ok q =>
   obtain ⟨l,p⟩:=q
   rw [h1] at h
   simp only at h
   cases h2:Q0U b p with
   | error x=>rw [h2] at h; simp at h
   | ok q2 =>
    obtain ⟨x,p'⟩:=q2
    rw [h2] at h
    simp only at h
    by_cases c:Q65 l x part=true
    ·rw [if_pos c] at h; simp at h
    ·rw [if_neg c] at h
     simp only [Except.ok.injEq,Prod.mk.injEq] at h
     obtain ⟨rfl,rfl⟩:=h
     have hll:=Q8u b part k m l p h1
     by_cases cj:j < m
     ·obtain ⟨p1,p2,g1,g2,g3,g4⟩:=ih l p h1 j (by omega)
      refine ⟨p1,p2,?_,?_,?_,?_⟩
      ·rw [List.take_append_of_le_length (by omega)]; exact g1
      ·rw [List.getElem_append_left (by omega)]; exact g2
      ·rw [List.take_append_of_le_length (by omega)]; exact g3
      ·rw [List.take_append_of_le_length (by omega),List.getElem_append_left (by omega)]; exact g4
     ·have ej:j=m:=by rw [List.length_append] at hl; simp at hl hj; omega
      subst ej
      have et:(l++[x]).take j=l:=by rw [←hll]; simp
      have eg:(l++[x])[j]=x:=by subst hll; simp
      refine ⟨p,p',by rw [et]; exact h1,by rw [eg]; exact h2,?_,by rw [et,eg]; simpa using c⟩
      rw [List.take_of_length_le (by omega)]; exact h0
theorem Qcc (b:ByteArray) (k:Nat):∀ m L P,Q1N b k m=.ok (L,P)→L.length=m:=by
 intro m
 induction m with
 | zero=>intro L P h; simp only [Q1N,Except.ok.injEq,Prod.mk.injEq] at h; rw [←h.1]; rfl
 | succ m ih =>
  intro L P h
  rw [Q1N] at h
  cases h1:Q1N b k m with
  | error x=>rw [h1] at h; simp at h
  | ok q =>
   obtain ⟨l,p⟩:=q
   rw [h1] at h
   simp only at h
   cases h2:Q0j b p with
   | error x=>rw [h2] at h; simp at h
   | ok q2 =>
    obtain ⟨x,p'⟩:=q2
    rw [h2] at h
    simp only [Except.ok.injEq,Prod.mk.injEq] at h
    rw [←h.1,List.length_append,ih l p h1]
    rfl
theorem QkE (b:ByteArray) (k:Nat):∀ m L P,Q1N b k m=.ok (L,P)→∀ j (hj:j < L.length),∃ p p',Q1N b k j=.ok (L.take j,p)∧Q0j b p=.ok (L[j],p')∧Q1N b k (j+1)=.ok (L.take (j+1),p'):=by
 intro m
 induction m with
 | zero=>intro L P h j hj; have:=Qcc b k 0 L P h; omega
 | succ m ih =>
  intro L P h j hj
  have hl:=Qcc b k (m+1) L P h
  have h0:=h
  rw [Q1N] at h
  cases h1:Q1N b k m with
  | error x=>rw [h1] at h; simp at h
  | ok q =>
   obtain ⟨l,p⟩:=q
   rw [h1] at h
   simp only at h
   cases h2:Q0j b p with
   | error x=>rw [h2] at h; simp at h
   | ok q2 =>
    obtain ⟨x,p'⟩:=q2
    rw [h2] at h
    simp only [Except.ok.injEq,Prod.mk.injEq] at h
    obtain ⟨rfl,rfl⟩:=h
    have hll:=Qcc b k m l p h1
    by_cases cj:j < m
    ·obtain ⟨p1,p2,g1,g2,g3⟩:=ih l p h1 j (by omega)
     refine ⟨p1,p2,?_,?_,?_⟩
     ·rw [List.take_append_of_le_length (by omega)]; exact g1
     ·rw [List.getElem_append_left (by omega)]; exact g2
     ·rw [List.take_append_of_le_length (by omega)]; exact g3
    ·have ej:j=m:=by rw [List.length_append] at hl; simp at hl hj; omega
     subst ej
     have et:(l++[x]).take j=l:=by rw [←hll]; simp
     have eg:(l++[x])[j]=x:=by subst hll; simp
     refine ⟨p,p',by rw [et]; exact h1,by rw [eg]; exact h2,?_⟩
     rw [List.take_of_length_le (by omega)]; exact h0
theorem QiZ (b:ByteArray) (p:Nat) (x:Rc) (p':Nat) (h:Q0U b p=.ok (x,p')) :
  ∃ u,Q05 b p=.ok (x.name,u)∧p+u+10+num b (p+u+8) 2≤b.size∧p'=p+u+10+num b (p+u+8) 2∧x.ty=num b (p+u) 2∧x.cl=num b (p+u+2) 2∧x.ttl=num b (p+u+4) 4 ∧
   Q1n b (p+u+10) (num b (p+u+8) 2) (num b (p+u) 2)=some x.data:=by
 unfold Q0U at h
 cases h1:Q05 b p with
 | error e=>rw [h1] at h; simp at h
 | ok q =>
  obtain ⟨s,u⟩:=q
  rw [h1] at h
  simp only at h
  by_cases c:b.size < p+u+10
  ·rw [if_pos c] at h; simp at h
  ·rw [if_neg c] at h
   by_cases c':b.size < p+u+10+num b (p+u+8) 2
   ·rw [if_pos c'] at h; simp at h
   ·rw [if_neg c'] at h
    cases h2:Q1n b (p+u+10) (num b (p+u+8) 2) (num b (p+u) 2) with
    | none=>rw [h2] at h; simp at h
    | some d =>
     rw [h2] at h
     simp only [Except.ok.injEq,Prod.mk.injEq] at h
     obtain ⟨rfl,rfl⟩:=h
     exact ⟨u,rfl,by omega,rfl,rfl,rfl,rfl,h2⟩
theorem QiY (b:ByteArray) (p:Nat) (x:Qs) (p':Nat) (h:Q0j b p=.ok (x,p')) :
  ∃ u,Q05 b p=.ok (x.name,u)∧p+u+4≤b.size∧p'=p+u+4∧x.ty=num b (p+u) 2∧x.cl=num b (p+u+2) 2:=by
 unfold Q0j at h
 cases h1:Q05 b p with
 | error e=>rw [h1] at h; simp at h
 | ok q =>
  obtain ⟨s,u⟩:=q
  rw [h1] at h
  simp only at h
  by_cases c:b.size < p+u+4
  ·rw [if_pos c] at h; simp at h
  ·rw [if_neg c] at h
   simp only [Except.ok.injEq,Prod.mk.injEq] at h
   obtain ⟨rfl,rfl⟩:=h
   exact ⟨u,rfl,by omega,rfl,rfl,rfl⟩
theorem QeN (b:ByteArray) (m:Msg) (h:Q0X b=.ok m):b.size≤65535∧12≤b.size∧m.id=num b 0 2∧m.flags=num b 2 2∧num b 4 2=m.q.length∧num b 6 2=m.a.length∧num b 8 2=m.u.length∧num b 10 2=m.x.length ∧
  ∃ p1 p2 p3,Q1N b 12 m.q.length=.ok (m.q,p1)∧Q0V b 0 p1 m.a.length=.ok (m.a,p2)∧Q0V b 1 p2 m.u.length=.ok (m.u,p3)∧Q0V b 2 p3 m.x.length=.ok (m.x,b.size):=by
 unfold Q0X at h
 by_cases c1:65535 < b.size
 ·rw [if_pos c1] at h; simp at h
 rw [if_neg c1] at h
 by_cases c2:b.size < 12
 ·rw [if_pos c2] at h; simp at h
 rw [if_neg c2] at h
 cases h1:Q1N b 12 (num b 4 2) with
 | error e=>rw [h1] at h; simp at h
 | ok r1 =>
  obtain ⟨q,p1⟩:=r1
  rw [h1] at h
  simp only at h
  cases h2:Q0V b 0 p1 (num b 6 2) with
  | error e=>rw [h2] at h; simp at h
  | ok r2 =>
   obtain ⟨a,p2⟩:=r2
   rw [h2] at h
   simp only at h
   cases h3:Q0V b 1 p2 (num b 8 2) with
   | error e=>rw [h3] at h; simp at h
   | ok r3 =>
    obtain ⟨u,p3⟩:=r3
    rw [h3] at h
    simp only at h
    cases h4:Q0V b 2 p3 (num b 10 2) with
    | error e=>rw [h4] at h; simp at h
    | ok r4 =>
     obtain ⟨x,p4⟩:=r4
     rw [h4] at h
     simp only at h
     by_cases c3:p4≠b.size
     ·rw [if_pos c3] at h; simp at h
     ·rw [if_neg c3] at h
      simp only [Except.ok.injEq] at h
      subst h
      have l1:=Qcc _ _ _ _ _ h1
      have l2:=Q8u _ _ _ _ _ _ h2
      have l3:=Q8u _ _ _ _ _ _ h3
      have l4:=Q8u _ _ _ _ _ _ h4
      have e4:p4=b.size:=by omega
      subst e4
      exact ⟨by omega,by omega,rfl,rfl,l1.symm,l2.symm,l3.symm,l4.symm,p1,p2,p3,by rw [l1]; exact h1,by rw [l2]; exact h2,by rw [l3]; exact h3,by rw [l4]; exact h4⟩
theorem QeR (l:List Qs):Q1M l=qcI (l.map Qs.int):=by
 induction l with
 | nil=>rfl
 | cons x l ih =>
  show _ :: _ :: _ :: Q1M l=_ :: _ :: _ :: qcI (l.map Qs.int)
  rw [ih]
  rfl
theorem QeV (l:List Rc):Q0e l=rcI (l.map Rc.int):=by
 induction l with
 | nil=>rfl
 | cons x l ih =>
  show _ :: _ :: _ :: _ :: _ :: Q0e l=_ :: _ :: _ :: _ :: _ :: rcI (l.map Rc.int)
  rw [ih]
  rfl
theorem Qd3 {m:MI} (h:Q1A m):Q4m m.q∧Q4O m.a∧Q4O m.u∧Q4O m.x:=by
 obtain ⟨sq,sr⟩:=MsgAt.sizes h
 refine ⟨fun i hi=>?_,fun i hi=>?_,fun i hi=>?_,fun i hi=>?_⟩
 ·have:=sq i hi; omega
 ·have:=sr m.a (.inl rfl) i hi; omega
 ·have:=sr m.u (.inr (.inl rfl)) i hi; omega
 ·have:=sr m.x (.inr (.inr rfl)) i hi; omega
theorem QiK (b:ByteArray):∀ (f k run front:Nat) (e:Int),nm b f k run front=.error e→e≠0:=by
 intro f
 induction f with
 | zero=>intro k run front e h; simp only [nm,Except.error.injEq] at h; omega
 | succ f ih =>
  intro k run front e h
  rw [nm] at h
  split at h
  ·simp only [Except.error.injEq] at h; omega
  ·split at h
   ·simp at h
   ·split at h
    ·split at h
     ·simp only [Except.error.injEq] at h; omega
     ·split at h
      ·simp only [Except.error.injEq] at h; omega
      ·split at h
       ·simp only [Except.error.injEq] at h; omega
       ·split at h
        ·simp at h
        ·next e' he=>simp only [Except.error.injEq] at h; subst h; exact ih _ _ _ _ he
    ·split at h
     ·simp only [Except.error.injEq] at h; omega
     ·split at h
      ·simp only [Except.error.injEq] at h; omega
      ·split at h
       ·simp at h
       ·next e' he=>simp only [Except.error.injEq] at h; subst h; exact ih _ _ _ _ he
theorem QkF (b:ByteArray) (p:Nat) (e:Int) (h:Q0j b p=.error e):e≠0:=by
 unfold Q0j at h
 cases h1:Q05 b p with
 | error x=>rw [h1] at h; simp only [Except.error.injEq] at h; subst h; exact QiK b _ _ _ _ _ h1
 | ok q =>
  rw [h1] at h
  simp only at h
  split at h
  ·simp only [Except.error.injEq] at h; omega
  ·simp at h
theorem QkJ (b:ByteArray) (p:Nat) (e:Int) (h:Q0U b p=.error e):e≠0:=by
 unfold Q0U at h
 cases h1:Q05 b p with
 | error x=>rw [h1] at h; simp only [Except.error.injEq] at h; subst h; exact QiK b _ _ _ _ _ h1
 | ok q =>
  rw [h1] at h
  simp only at h
  split at h
  ·simp only [Except.error.injEq] at h; omega
  ·split at h
   ·simp only [Except.error.injEq] at h; omega
   ·split at h
    ·simp only [Except.error.injEq] at h; omega
    ·simp at h
theorem QlO (b:ByteArray) (k:Nat):∀ m e,Q1N b k m=.error e→e≠0:=by
 intro m
 induction m with
 | zero=>intro e h; simp [Q1N] at h
 | succ m ih =>
  intro e h
  rw [Q1N] at h
  cases h1:Q1N b k m with
  | error x=>rw [h1] at h; simp only [Except.error.injEq] at h; subst h; exact ih _ h1
  | ok q =>
   rw [h1] at h
   simp only at h
   cases h2:Q0j b q.2 with
   | error x=>rw [h2] at h; simp only [Except.error.injEq] at h; subst h; exact QkF b _ _ h2
   | ok q2=>rw [h2] at h; simp at h
theorem QeU (b:ByteArray) (part k:Nat):∀ m e,Q0V b part k m=.error e→e≠0:=by
 intro m
 induction m with
 | zero=>intro e h; simp [Q0V] at h
 | succ m ih =>
  intro e h
  rw [Q0V] at h
  cases h1:Q0V b part k m with
  | error x=>rw [h1] at h; simp only [Except.error.injEq] at h; subst h; exact ih _ h1
  | ok q =>
   rw [h1] at h
   simp only at h
   cases h2:Q0U b q.2 with
   | error x=>rw [h2] at h; simp only [Except.error.injEq] at h; subst h; exact QkJ b _ _ h2
   | ok q2 =>
    rw [h2] at h
    simp only at h
    split at h
    ·simp only [Except.error.injEq] at h; omega
    ·simp at h
theorem Qbz (b:ByteArray) (e:Int) (h:Q0X b=.error e):e≠0:=by
 unfold Q0X at h
 split at h
 ·simp only [Except.error.injEq] at h; omega
 ·split at h
  ·simp only [Except.error.injEq] at h; omega
  ·split at h
   ·next x h1=>simp only [Except.error.injEq] at h; subst h; exact QlO b _ _ _ h1
   ·split at h
    ·next x h1=>simp only [Except.error.injEq] at h; subst h; exact QeU b _ _ _ _ h1
    ·split at h
     ·next x h1=>simp only [Except.error.injEq] at h; subst h; exact QeU b _ _ _ _ h1
     ·split at h
      ·next x h1=>simp only [Except.error.injEq] at h; subst h; exact QeU b _ _ _ _ h1
      ·split at h
       ·simp only [Except.error.injEq] at h; omega
       ·simp at h
theorem Q9l (s t:ByteArray) (h:t.size=0):s++t=s:=by
 apply Q3b
 ·rw [ByteArray.size_append]; omega
 ·intro i hi
  rw [ByteArray.size_append] at hi
  rw [Q03,if_pos (by omega)]
theorem QgA (b:ByteArray) (k n t:Nat) (d:ByteArray) (hb:b.size≤65535) (hk:k+n≤b.size) (h:Q1n b k n t=some d):Q1Y t d:=by
 unfold Q1n at h
 by_cases c1:t=2∨t=5∨t=12
 ·rw [if_pos c1] at h
  obtain ⟨S,P,h1,h2,h3⟩:=Qe0 b k n 1 0 d h
  obtain ⟨x,u,q1,q2,_⟩:=Q75 b k 1 0 (by omega) S P h1 ⟨#[]⟩ k rfl
  rw [h1] at q2
  simp only [Except.ok.injEq,Prod.mk.injEq] at q2
  obtain ⟨rfl,rfl⟩:=q2
  rw [empty_append,Q9l x _ (by rw [ByteArray.size_extract]; omega)] at h3
  subst h3
  exact (Q5c d t c1).2 (Q1G b k d u q1)
 ·rw [if_neg c1] at h
  by_cases c2:t=6
  ·rw [if_pos c2] at h
   obtain ⟨S,P,h1,h2,h3⟩:=Qe0 b k n 2 20 d h
   obtain ⟨x,u,q1,q2,_⟩:=Q75 b k 2 0 (by omega) S P h1 ⟨#[]⟩ k rfl
   obtain ⟨y,u',q3,q4,_⟩:=Q75 b k 2 1 (by omega) S P h1 _ _ q2
   rw [h1] at q4
   simp only [Except.ok.injEq,Prod.mk.injEq] at q4
   obtain ⟨rfl,rfl⟩:=q4
   rw [empty_append] at h3
   subst c2
   exact (Q6I d).2 ⟨x,y,_,h3,Q1G b k x u q1,Q1G b _ y u' q3,by rw [ByteArray.size_extract]; omega⟩
  ·rw [if_neg c2] at h
   by_cases c3:Q2q t (b.extract k (k+n))=true
   ·rw [if_pos c3] at h
    simp only [Option.some.injEq] at h
    subst h
    exact (Q3S _ t c1 c2).2 ⟨by rw [ByteArray.size_extract]; omega,c3⟩
   ·rw [if_neg c3] at h; simp at h
theorem Q8t (b:ByteArray) (part k P:Nat) (L:List Rc) (hb:b.size≤65535) (hl:L.length≤65535) (h:Q0V b part k L.length=.ok (L,P)):Q1H (L.map Rc.int) part:=by
 refine ⟨by simpa using hl,fun i hi=>?_⟩
 have hi':i < L.length:=by simpa using hi
 obtain ⟨p,p',_,h2,_,h4⟩:=QkI b part k L.length L P h i hi'
 obtain ⟨u,q1,q2,q3,q4,q5,q6,q7⟩:=QiZ b p L[i] p' h2
 have e:(L.map Rc.int)[i]=L[i].int:=by simp
 rw [e]
 have t1:L[i].ty < 65536:=by rw [q4]; exact Q0n _ _
 have t2:L[i].cl < 65536:=by rw [q5]; exact Q0n _ _
 have t3:L[i].ttl < 4294967296:=by rw [q6]; exact Q6A _ _ _ (by omega)
 refine ⟨⟨Q1G b p _ u q1,⟨?_,?_⟩,⟨?_,?_⟩,⟨?_,?_⟩,?_⟩,?_⟩
 ·show (0:Int)≤(L[i].ty:Int); omega
 ·show (L[i].ty:Int)≤65535; omega
 ·show (0:Int)≤(L[i].cl:Int); omega
 ·show (L[i].cl:Int)≤65535; omega
 ·show (0:Int)≤(L[i].ttl:Int); omega
 ·show (L[i].ttl:Int)≤4294967295; omega
 ·show Q1Y L[i].ty L[i].data
  rw [q4]
  exact QgA b _ _ _ _ hb q2 q7
 ·rintro ⟨m1,m2⟩
  have m1':((L[i].ty:Nat):Int)=41:=m1
  have hf:Q65 (L.take i) L[i] part=true:=by
   simp only [Q65,Bool.and_eq_true,beq_iff_eq,Bool.or_eq_true,List.any_eq_true,bne_iff_ne,ne_eq,decide_eq_true_eq]
   refine ⟨by omega,?_⟩
   rcases m2 with ⟨y,hy,hy2⟩ | m2 | m2
   ·rw [←List.map_take,List.mem_map] at hy
    obtain ⟨z,hz,rfl⟩:=hy
    have hy2':((z.ty:Nat):Int)=41:=hy2
    exact .inl (.inl ⟨z,hz,by omega⟩)
   ·exact .inl (.inr m2)
   ·exact .inr m2
  rw [h4] at hf
  exact absurd hf (by decide)
theorem Q78 (b:ByteArray) (m:Msg) (h:Q0X b=.ok m):Q1A m.int:=by
 obtain ⟨hb,h12,i1,i2,l1,l2,l3,l4,p1,p2,p3,r1,r2,r3,r4⟩:=QeN b m h
 have z1:=Q0n b 4
 have z2:=Q0n b 6
 have z3:=Q0n b 8
 have z4:=Q0n b 10
 have z5:=Q0n b 0
 have z6:=Q0n b 2
 refine ⟨⟨?_,?_⟩,⟨?_,?_⟩,⟨?_,fun i hi=>?_⟩,Q8t b 0 p1 p2 m.a hb (by omega) r2,Q8t b 1 p2 p3 m.u hb (by omega) r3,Q8t b 2 p3 b.size m.x hb (by omega) r4⟩
 ·show (0:Int)≤(m.id:Int); omega
 ·show (m.id:Int)≤65535; omega
 ·show (0:Int)≤(m.flags:Int); omega
 ·show (m.flags:Int)≤65535; omega
 ·show (m.q.map Qs.int).length≤65535; rw [List.length_map]; omega
 ·have hi':i < m.q.length:=by simpa [Msg.int] using hi
  obtain ⟨p,p',_,h2,_⟩:=QkE b 12 m.q.length m.q p1 r1 i hi'
  obtain ⟨u,q1,q2,q3,q4,q5⟩:=QiY b p _ p' h2
  have e:m.int.q[i]=m.q[i].int:=by simp [Msg.int]
  rw [e]
  have t1:m.q[i].ty < 65536:=by rw [q4]; exact Q0n _ _
  have t2:m.q[i].cl < 65536:=by rw [q5]; exact Q0n _ _
  refine ⟨Q1G b p _ u q1,⟨?_,?_⟩,⟨?_,?_⟩⟩
  ·show (0:Int)≤(m.q[i].ty:Int); omega
  ·show (m.q[i].ty:Int)≤65535; omega
  ·show (0:Int)≤(m.q[i].cl:Int); omega
  ·show (m.q[i].cl:Int)≤65535; omega
end Go.Proofs.YtdhobdmhnocbgabGreatDoor
