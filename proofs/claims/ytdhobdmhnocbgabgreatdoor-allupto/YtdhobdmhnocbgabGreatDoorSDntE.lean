import Derived.Test.YtdhobdmhnocbgabGreatDoorSKeepA
import Derived.Test.YtdhobdmhnocbgabGreatDoorSRefP
namespace Go.Proofs.YtdhobdmhnocbgabGreatDoor
open Go.RowKit Zr
theorem Qgj (b:ByteArray) (k:Nat):∀ e j S P,Q0b b k (j+e)=.ok (S,P)→∃ s p,Q0b b k j=.ok (s,p)∧Pre s S:=by
 intro e
 induction e with
 | zero=>intro j S P h; exact ⟨S,P,h,Pre.refl _⟩
 | succ e ih =>
  intro j S P h
  rw [←Nat.add_assoc,Q0b] at h
  cases h1:Q0b b k (j+e) with
  | error x=>rw [h1] at h; simp at h
  | ok q =>
   obtain ⟨s0,p0⟩:=q
   rw [h1] at h
   simp only at h
   cases h2:Q04 b p0 with
   | error x=>rw [h2] at h; simp at h
   | ok q2 =>
    obtain ⟨x,u⟩:=q2
    rw [h2] at h
    simp only [Except.ok.injEq,Prod.mk.injEq] at h
    obtain ⟨rfl,_⟩:=h
    obtain ⟨s,p,h3,h4⟩:=ih j s0 p0 h1
    exact ⟨s,p,h3,h4.trans (Qeq _ _)⟩
theorem Q71 (b:ByteArray) (k m j:Nat) (hj:j < m) (S:ByteArray) (P:Nat) (h:Q0b b k m=.ok (S,P)) (s:ByteArray) (p:Nat) (h0:Q0b b k j=.ok (s,p)) :
  ∃ x u,Q04 b p=.ok (x,u)∧Q0b b k (j+1)=.ok (s++x,p+u)∧Pre (s++x) S:=by
 obtain ⟨s',q',x,u,h1,h2⟩:=Qag b k m S P h j hj
 rw [h0] at h1
 simp only [Except.ok.injEq,Prod.mk.injEq] at h1
 obtain ⟨rfl,rfl⟩:=h1
 have h3:Q0b b k (j+1)=.ok (s++x,p+u):=by rw [Q0b,h0]; simp only; rw [h2]
 obtain ⟨s2,p2,h4,h5⟩:=Qgj b k (m - (j+1)) (j+1) S P (by rw [show j+1+(m - (j+1))=m by omega]; exact h)
 rw [h3] at h4
 simp only [Except.ok.injEq,Prod.mk.injEq] at h4
 obtain ⟨rfl,_⟩:=h4
 exact ⟨x,u,h2,h3,h5⟩
def Qmt (t:Nat) (r:ByteArray):Prop :=
 (t=1→r.size=4)∧(t=28→r.size=16)∧(t=6→r.size=20)∧(t=2∨t=5∨t=12→r.size=0)∧(t=33→7≤r.size∧Q08 (r.extract 6 r.size)=true)
theorem Qdx (b:ByteArray) (k n m more:Nat) (d:ByteArray) (h:wn b k n m more=some d):∃ S P,Q0b b k m=.ok (S,P)∧P+more=k+n∧d=S++b.extract P (k+n):=by
 unfold wn at h
 cases h1:Q0b b k m with
 | error x=>rw [h1] at h; simp at h
 | ok q =>
  obtain ⟨S,P⟩:=q
  rw [h1] at h
  simp only at h
  by_cases c:P+more=k+n
  ·rw [if_pos c] at h
   simp only [Option.some.injEq] at h
   rw [c] at h
   exact ⟨S,P,rfl,c,h.symm⟩
  ·rw [if_neg c] at h; simp at h
theorem Q88 (b:ByteArray) (part k:Nat):∀ m L P,Q0V b part k m=.ok (L,P)→L.length=m:=by
 intro m
 induction m with
 | zero=>intro L P h; simp only [Q0V,Except.ok.injEq,Prod.mk.injEq] at h; rw [←h.1]; rfl
 | succ m ih =>
  intro L P h
  rw [Q0V] at h
  cases h1:Q0V b part k m with
  | error x=>rw [h1] at h; simp at h
  | ok q =>
   obtain ⟨l,p⟩:=q
   rw [h1] at h
   simp only at h
   cases h2:Q0U b p with
   | error x=>rw [h2] at h; simp at h
   | ok q2 =>
    obtain ⟨x,p'⟩:=q2
    rw [h2] at h
    simp only at h
    split at h
    ·simp at h
    ·simp only [Except.ok.injEq,Prod.mk.injEq] at h
     rw [←h.1,List.length_append,ih l p h1]
     rfl
theorem QjV (b:ByteArray) (part k:Nat):∀ m L P,Q0V b part k m=.ok (L,P)→∀ j (hj:j < L.length),∃ p p',Q0V b part k j=.ok (L.take j,p)∧Q0U b p=.ok (L[j],p')∧Q0V b part k (j+1)=.ok (L.take (j+1),p')∧Q6j (L.take j) L[j] part=false:=by
 intro m
 induction m with
 | zero=>intro L P h j hj; have:=Q88 b part k 0 L P h; omega
 | succ m ih =>
  intro L P h j hj
  have hl:=Q88 b part k (m+1) L P h
  have h0:=h
  rw [Q0V] at h
  cases h1:Q0V b part k m with
  | error x=>rw [h1] at h; simp at h
  | ok q =>
   obtain ⟨l,p⟩:=q
   rw [h1] at h
   simp only at h
   cases h2:Q0U b p with
   | error x=>rw [h2] at h; simp at h
   | ok q2 =>
    obtain ⟨x,p'⟩:=q2
    rw [h2] at h
    simp only at h
    by_cases c:Q6j l x part=true
    ·rw [if_pos c] at h; simp at h
    ·rw [if_neg c] at h
     simp only [Except.ok.injEq,Prod.mk.injEq] at h
     obtain ⟨rfl,rfl⟩:=h
     have hll:=Q88 b part k m l p h1
     by_cases cj:j < m
     ·obtain ⟨p1,p2,g1,g2,g3,g4⟩:=ih l p h1 j (by omega)
      refine ⟨p1,p2,?_,?_,?_,?_⟩
      ·rw [List.take_append_of_le_length (by omega)]; exact g1
      ·rw [List.getElem_append_left (by omega)]; exact g2
      ·rw [List.take_append_of_le_length (by omega)]; exact g3
      ·rw [List.take_append_of_le_length (by omega),List.getElem_append_left (by omega)]; exact g4
     ·have ej:j=m:=by rw [List.length_append] at hl; simp at hl hj; omega
      subst ej
      have et:(l++[x]).take j=l:=by rw [←hll]; simp
      have eg:(l++[x])[j]=x:=by subst hll; simp
      refine ⟨p,p',by rw [et]; exact h1,by rw [eg]; exact h2,?_,by rw [et,eg]; simpa using c⟩
      rw [List.take_of_length_le (by omega)]; exact h0
theorem Qcd (b:ByteArray) (k:Nat):∀ m L P,Q1M b k m=.ok (L,P)→L.length=m:=by
 intro m
 induction m with
 | zero=>intro L P h; simp only [Q1M,Except.ok.injEq,Prod.mk.injEq] at h; rw [←h.1]; rfl
 | succ m ih =>
  intro L P h
  rw [Q1M] at h
  cases h1:Q1M b k m with
  | error x=>rw [h1] at h; simp at h
  | ok q =>
   obtain ⟨l,p⟩:=q
   rw [h1] at h
   simp only at h
   cases h2:Q0i b p with
   | error x=>rw [h2] at h; simp at h
   | ok q2 =>
    obtain ⟨x,p'⟩:=q2
    rw [h2] at h
    simp only [Except.ok.injEq,Prod.mk.injEq] at h
    rw [←h.1,List.length_append,ih l p h1]
    rfl
theorem Qkz (b:ByteArray) (k:Nat):∀ m L P,Q1M b k m=.ok (L,P)→∀ j (hj:j < L.length),∃ p p',Q1M b k j=.ok (L.take j,p)∧Q0i b p=.ok (L[j],p')∧Q1M b k (j+1)=.ok (L.take (j+1),p'):=by
 intro m
 induction m with
 | zero=>intro L P h j hj; have:=Qcd b k 0 L P h; omega
 | succ m ih =>
  intro L P h j hj
  have hl:=Qcd b k (m+1) L P h
  have h0:=h
  rw [Q1M] at h
  cases h1:Q1M b k m with
  | error x=>rw [h1] at h; simp at h
  | ok q =>
   obtain ⟨l,p⟩:=q
   rw [h1] at h
   simp only at h
   cases h2:Q0i b p with
   | error x=>rw [h2] at h; simp at h
   | ok q2 =>
    obtain ⟨x,p'⟩:=q2
    rw [h2] at h
    simp only [Except.ok.injEq,Prod.mk.injEq] at h
    obtain ⟨rfl,rfl⟩:=h
    have hll:=Qcd b k m l p h1
    by_cases cj:j < m
    ·obtain ⟨p1,p2,g1,g2,g3⟩:=ih l p h1 j (by omega)
     refine ⟨p1,p2,?_,?_,?_⟩
     ·rw [List.take_append_of_le_length (by omega)]; exact g1
     ·rw [List.getElem_append_left (by omega)]; exact g2
     ·rw [List.take_append_of_le_length (by omega)]; exact g3
    ·have ej:j=m:=by rw [List.length_append] at hl; simp at hl hj; omega
     subst ej
     have et:(l++[x]).take j=l:=by rw [←hll]; simp
     have eg:(l++[x])[j]=x:=by subst hll; simp
     refine ⟨p,p',by rw [et]; exact h1,by rw [eg]; exact h2,?_⟩
     rw [List.take_of_length_le (by omega)]; exact h0
theorem Qhx (b:ByteArray) (p:Nat) (x:Rc) (p':Nat) (h:Q0U b p=.ok (x,p')) :
  ∃ u,Q04 b p=.ok (x.name,u)∧p+u+10+num b (p+u+8) 2≤b.size∧p'=p+u+10+num b (p+u+8) 2∧x.ty=num b (p+u) 2∧x.cl=num b (p+u+2) 2∧x.ttl=num b (p+u+4) 4 ∧
   Q1l b (p+u+10) (num b (p+u+8) 2) (num b (p+u) 2)=some x.data:=by
 unfold Q0U at h
 cases h1:Q04 b p with
 | error e=>rw [h1] at h; simp at h
 | ok q =>
  obtain ⟨s,u⟩:=q
  rw [h1] at h
  simp only at h
  by_cases c:b.size < p+u+10
  ·rw [if_pos c] at h; simp at h
  ·rw [if_neg c] at h
   by_cases c':b.size < p+u+10+num b (p+u+8) 2
   ·rw [if_pos c'] at h; simp at h
   ·rw [if_neg c'] at h
    cases h2:Q1l b (p+u+10) (num b (p+u+8) 2) (num b (p+u) 2) with
    | none=>rw [h2] at h; simp at h
    | some d =>
     rw [h2] at h
     simp only [Except.ok.injEq,Prod.mk.injEq] at h
     obtain ⟨rfl,rfl⟩:=h
     exact ⟨u,rfl,by omega,rfl,rfl,rfl,rfl,h2⟩
theorem Qil (b:ByteArray) (p:Nat) (x:Qs) (p':Nat) (h:Q0i b p=.ok (x,p')) :
  ∃ u,Q04 b p=.ok (x.name,u)∧p+u+4≤b.size∧p'=p+u+4∧x.ty=num b (p+u) 2∧x.cl=num b (p+u+2) 2:=by
 unfold Q0i at h
 cases h1:Q04 b p with
 | error e=>rw [h1] at h; simp at h
 | ok q =>
  obtain ⟨s,u⟩:=q
  rw [h1] at h
  simp only at h
  by_cases c:b.size < p+u+4
  ·rw [if_pos c] at h; simp at h
  ·rw [if_neg c] at h
   simp only [Except.ok.injEq,Prod.mk.injEq] at h
   obtain ⟨rfl,rfl⟩:=h
   exact ⟨u,rfl,by omega,rfl,rfl,rfl⟩
theorem Qem (b:ByteArray) (m:Msg) (h:Q0X b=.ok m):b.size≤65535∧12≤b.size∧m.id=num b 0 2∧m.flags=num b 2 2∧num b 4 2=m.q.length∧num b 6 2=m.a.length∧num b 8 2=m.u.length∧num b 10 2=m.x.length ∧
  ∃ p1 p2 p3,Q1M b 12 m.q.length=.ok (m.q,p1)∧Q0V b 0 p1 m.a.length=.ok (m.a,p2)∧Q0V b 1 p2 m.u.length=.ok (m.u,p3)∧Q0V b 2 p3 m.x.length=.ok (m.x,b.size):=by
 unfold Q0X at h
 by_cases c1:65535 < b.size
 ·rw [if_pos c1] at h; simp at h
 rw [if_neg c1] at h
 by_cases c2:b.size < 12
 ·rw [if_pos c2] at h; simp at h
 rw [if_neg c2] at h
 cases h1:Q1M b 12 (num b 4 2) with
 | error e=>rw [h1] at h; simp at h
 | ok r1 =>
  obtain ⟨q,p1⟩:=r1
  rw [h1] at h
  simp only at h
  cases h2:Q0V b 0 p1 (num b 6 2) with
  | error e=>rw [h2] at h; simp at h
  | ok r2 =>
   obtain ⟨a,p2⟩:=r2
   rw [h2] at h
   simp only at h
   cases h3:Q0V b 1 p2 (num b 8 2) with
   | error e=>rw [h3] at h; simp at h
   | ok r3 =>
    obtain ⟨u,p3⟩:=r3
    rw [h3] at h
    simp only at h
    cases h4:Q0V b 2 p3 (num b 10 2) with
    | error e=>rw [h4] at h; simp at h
    | ok r4 =>
     obtain ⟨x,p4⟩:=r4
     rw [h4] at h
     simp only at h
     by_cases c3:p4≠b.size
     ·rw [if_pos c3] at h; simp at h
     ·rw [if_neg c3] at h
      simp only [Except.ok.injEq] at h
      subst h
      have l1:=Qcd _ _ _ _ _ h1
      have l2:=Q88 _ _ _ _ _ _ h2
      have l3:=Q88 _ _ _ _ _ _ h3
      have l4:=Q88 _ _ _ _ _ _ h4
      have e4:p4=b.size:=by omega
      subst e4
      exact ⟨by omega,by omega,rfl,rfl,l1.symm,l2.symm,l3.symm,l4.symm,p1,p2,p3,by rw [l1]; exact h1,by rw [l2]; exact h2,by rw [l3]; exact h3,by rw [l4]; exact h4⟩
theorem QeW (l:List Qs):Q1L l=qcI (l.map Qs.int):=by
 induction l with
 | nil=>rfl
 | cons x l ih =>
  show _ :: _ :: _ :: Q1L l=_ :: _ :: _ :: qcI (l.map Qs.int)
  rw [ih]
  rfl
theorem Qef (l:List Rc):Q0j l=rcI (l.map Rc.int):=by
 induction l with
 | nil=>rfl
 | cons x l ih =>
  show _ :: _ :: _ :: _ :: _ :: Q0j l=_ :: _ :: _ :: _ :: _ :: rcI (l.map Rc.int)
  rw [ih]
  rfl
theorem Qd5 {m:MI} (h:Q1w m):Q4p m.q∧Q4M m.a∧Q4M m.u∧Q4M m.x:=by
 obtain ⟨sq,sr⟩:=MsgAt.sizes h
 refine ⟨fun i hi=>?_,fun i hi=>?_,fun i hi=>?_,fun i hi=>?_⟩
 ·have:=sq i hi; omega
 ·have:=sr m.a (.inl rfl) i hi; omega
 ·have:=sr m.u (.inr (.inl rfl)) i hi; omega
 ·have:=sr m.x (.inr (.inr rfl)) i hi; omega
theorem Qj8 (b:ByteArray):∀ (f k run front:Nat) (e:Int),nm b f k run front=.error e→e≠0:=by
 intro f
 induction f with
 | zero=>intro k run front e h; simp only [nm,Except.error.injEq] at h; omega
 | succ f ih =>
  intro k run front e h
  rw [nm] at h
  split at h
  ·simp only [Except.error.injEq] at h; omega
  ·split at h
   ·simp at h
   ·split at h
    ·split at h
     ·simp only [Except.error.injEq] at h; omega
     ·split at h
      ·simp only [Except.error.injEq] at h; omega
      ·split at h
       ·simp only [Except.error.injEq] at h; omega
       ·split at h
        ·simp at h
        ·next e' he=>simp only [Except.error.injEq] at h; subst h; exact ih _ _ _ _ he
    ·split at h
     ·simp only [Except.error.injEq] at h; omega
     ·split at h
      ·simp only [Except.error.injEq] at h; omega
      ·split at h
       ·simp at h
       ·next e' he=>simp only [Except.error.injEq] at h; subst h; exact ih _ _ _ _ he
theorem QjN (b:ByteArray) (p:Nat) (e:Int) (h:Q0i b p=.error e):e≠0:=by
 unfold Q0i at h
 cases h1:Q04 b p with
 | error x=>rw [h1] at h; simp only [Except.error.injEq] at h; subst h; exact Qj8 b _ _ _ _ _ h1
 | ok q =>
  rw [h1] at h
  simp only at h
  split at h
  ·simp only [Except.error.injEq] at h; omega
  ·simp at h
theorem QkM (b:ByteArray) (p:Nat) (e:Int) (h:Q0U b p=.error e):e≠0:=by
 unfold Q0U at h
 cases h1:Q04 b p with
 | error x=>rw [h1] at h; simp only [Except.error.injEq] at h; subst h; exact Qj8 b _ _ _ _ _ h1
 | ok q =>
  rw [h1] at h
  simp only at h
  split at h
  ·simp only [Except.error.injEq] at h; omega
  ·split at h
   ·simp only [Except.error.injEq] at h; omega
   ·split at h
    ·simp only [Except.error.injEq] at h; omega
    ·simp at h
theorem QlH (b:ByteArray) (k:Nat):∀ m e,Q1M b k m=.error e→e≠0:=by
 intro m
 induction m with
 | zero=>intro e h; simp [Q1M] at h
 | succ m ih =>
  intro e h
  rw [Q1M] at h
  cases h1:Q1M b k m with
  | error x=>rw [h1] at h; simp only [Except.error.injEq] at h; subst h; exact ih _ h1
  | ok q =>
   rw [h1] at h
   simp only at h
   cases h2:Q0i b q.2 with
   | error x=>rw [h2] at h; simp only [Except.error.injEq] at h; subst h; exact QjN b _ _ h2
   | ok q2=>rw [h2] at h; simp at h
theorem Qfc (b:ByteArray) (part k:Nat):∀ m e,Q0V b part k m=.error e→e≠0:=by
 intro m
 induction m with
 | zero=>intro e h; simp [Q0V] at h
 | succ m ih =>
  intro e h
  rw [Q0V] at h
  cases h1:Q0V b part k m with
  | error x=>rw [h1] at h; simp only [Except.error.injEq] at h; subst h; exact ih _ h1
  | ok q =>
   rw [h1] at h
   simp only at h
   cases h2:Q0U b q.2 with
   | error x=>rw [h2] at h; simp only [Except.error.injEq] at h; subst h; exact QkM b _ _ h2
   | ok q2 =>
    rw [h2] at h
    simp only at h
    split at h
    ·simp only [Except.error.injEq] at h; omega
    ·simp at h
theorem QbH (b:ByteArray) (e:Int) (h:Q0X b=.error e):e≠0:=by
 unfold Q0X at h
 split at h
 ·simp only [Except.error.injEq] at h; omega
 ·split at h
  ·simp only [Except.error.injEq] at h; omega
  ·split at h
   ·next x h1=>simp only [Except.error.injEq] at h; subst h; exact QlH b _ _ _ h1
   ·split at h
    ·next x h1=>simp only [Except.error.injEq] at h; subst h; exact Qfc b _ _ _ _ h1
    ·split at h
     ·next x h1=>simp only [Except.error.injEq] at h; subst h; exact Qfc b _ _ _ _ h1
     ·split at h
      ·next x h1=>simp only [Except.error.injEq] at h; subst h; exact Qfc b _ _ _ _ h1
      ·split at h
       ·simp only [Except.error.injEq] at h; omega
       ·simp at h
theorem Qaj (s t:ByteArray) (h:t.size=0):s++t=s:=by
 apply Q3S
 ·rw [ByteArray.size_append]; omega
 ·intro i hi
  rw [ByteArray.size_append] at hi
  rw [Q05,if_pos (by omega)]
theorem Qhh (b:ByteArray) (k n t:Nat) (d:ByteArray) (hb:b.size≤65535) (hk:k+n≤b.size) (h:Q1l b k n t=some d):Q1W t d:=by
 unfold Q1l at h
 by_cases c1:t=2∨t=5∨t=12
 ·rw [if_pos c1] at h
  obtain ⟨S,P,h1,h2,h3⟩:=Qdx b k n 1 0 d h
  obtain ⟨x,u,q1,q2,_⟩:=Q71 b k 1 0 (by omega) S P h1 ⟨#[]⟩ k rfl
  rw [h1] at q2
  simp only [Except.ok.injEq,Prod.mk.injEq] at q2
  obtain ⟨rfl,rfl⟩:=q2
  rw [empty_append,Qaj x _ (by rw [ByteArray.size_extract]; omega)] at h3
  subst h3
  exact (Q53 d t c1).2 (Q1G b k d u q1)
 ·rw [if_neg c1] at h
  by_cases c2:t=6
  ·rw [if_pos c2] at h
   obtain ⟨S,P,h1,h2,h3⟩:=Qdx b k n 2 20 d h
   obtain ⟨x,u,q1,q2,_⟩:=Q71 b k 2 0 (by omega) S P h1 ⟨#[]⟩ k rfl
   obtain ⟨y,u',q3,q4,_⟩:=Q71 b k 2 1 (by omega) S P h1 _ _ q2
   rw [h1] at q4
   simp only [Except.ok.injEq,Prod.mk.injEq] at q4
   obtain ⟨rfl,rfl⟩:=q4
   rw [empty_append] at h3
   subst c2
   exact (Q6m d).2 ⟨x,y,_,h3,Q1G b k x u q1,Q1G b _ y u' q3,by rw [ByteArray.size_extract]; omega⟩
  ·rw [if_neg c2] at h
   by_cases c3:Q2q t (b.extract k (k+n))=true
   ·rw [if_pos c3] at h
    simp only [Option.some.injEq] at h
    subst h
    exact (Q3T _ t c1 c2).2 ⟨by rw [ByteArray.size_extract]; omega,c3⟩
   ·rw [if_neg c3] at h; simp at h
theorem Q8b (b:ByteArray) (part k P:Nat) (L:List Rc) (hb:b.size≤65535) (hl:L.length≤65535) (h:Q0V b part k L.length=.ok (L,P)):Q1D (L.map Rc.int) part:=by
 refine ⟨by simpa using hl,fun i hi=>?_⟩
 have hi':i < L.length:=by simpa using hi
 obtain ⟨p,p',_,h2,_,h4⟩:=QjV b part k L.length L P h i hi'
 obtain ⟨u,q1,q2,q3,q4,q5,q6,q7⟩:=Qhx b p L[i] p' h2
 have e:(L.map Rc.int)[i]=L[i].int:=by simp
 rw [e]
 have t1:L[i].ty < 65536:=by rw [q4]; exact Q0n _ _
 have t2:L[i].cl < 65536:=by rw [q5]; exact Q0n _ _
 have t3:L[i].ttl < 4294967296:=by rw [q6]; exact Q6B _ _ _ (by omega)
 refine ⟨⟨Q1G b p _ u q1,⟨?_,?_⟩,⟨?_,?_⟩,⟨?_,?_⟩,?_⟩,?_⟩
 ·show (0:Int)≤(L[i].ty:Int); omega
 ·show (L[i].ty:Int)≤65535; omega
 ·show (0:Int)≤(L[i].cl:Int); omega
 ·show (L[i].cl:Int)≤65535; omega
 ·show (0:Int)≤(L[i].ttl:Int); omega
 ·show (L[i].ttl:Int)≤4294967295; omega
 ·show Q1W L[i].ty L[i].data
  rw [q4]
  exact Qhh b _ _ _ _ hb q2 q7
 ·rintro ⟨m1,m2⟩
  have m1':((L[i].ty:Nat):Int)=41:=m1
  have hf:Q6j (L.take i) L[i] part=true:=by
   simp only [Q6j,Bool.and_eq_true,beq_iff_eq,Bool.or_eq_true,List.any_eq_true,bne_iff_ne,ne_eq,decide_eq_true_eq]
   refine ⟨by omega,?_⟩
   rcases m2 with ⟨y,hy,hy2⟩ | m2 | m2
   ·rw [←List.map_take,List.mem_map] at hy
    obtain ⟨z,hz,rfl⟩:=hy
    have hy2':((z.ty:Nat):Int)=41:=hy2
    exact .inl (.inl ⟨z,hz,by omega⟩)
   ·exact .inl (.inr m2)
   ·exact .inr m2
  rw [h4] at hf
  exact absurd hf (by decide)
theorem Q73 (b:ByteArray) (m:Msg) (h:Q0X b=.ok m):Q1w m.int:=by
 obtain ⟨hb,h12,i1,i2,l1,l2,l3,l4,p1,p2,p3,r1,r2,r3,r4⟩:=Qem b m h
 have z1:=Q0n b 4
 have z2:=Q0n b 6
 have z3:=Q0n b 8
 have z4:=Q0n b 10
 have z5:=Q0n b 0
 have z6:=Q0n b 2
 refine ⟨⟨?_,?_⟩,⟨?_,?_⟩,⟨?_,fun i hi=>?_⟩,Q8b b 0 p1 p2 m.a hb (by omega) r2,Q8b b 1 p2 p3 m.u hb (by omega) r3,Q8b b 2 p3 b.size m.x hb (by omega) r4⟩
 ·show (0:Int)≤(m.id:Int); omega
 ·show (m.id:Int)≤65535; omega
 ·show (0:Int)≤(m.flags:Int); omega
 ·show (m.flags:Int)≤65535; omega
 ·show (m.q.map Qs.int).length≤65535; rw [List.length_map]; omega
 ·have hi':i < m.q.length:=by simpa [Msg.int] using hi
  obtain ⟨p,p',_,h2,_⟩:=Qkz b 12 m.q.length m.q p1 r1 i hi'
  obtain ⟨u,q1,q2,q3,q4,q5⟩:=Qil b p _ p' h2
  have e:m.int.q[i]=m.q[i].int:=by simp [Msg.int]
  rw [e]
  have t1:m.q[i].ty < 65536:=by rw [q4]; exact Q0n _ _
  have t2:m.q[i].cl < 65536:=by rw [q5]; exact Q0n _ _
  refine ⟨Q1G b p _ u q1,⟨?_,?_⟩,⟨?_,?_⟩⟩
  ·show (0:Int)≤(m.q[i].ty:Int); omega
  ·show (m.q[i].ty:Int)≤65535; omega
  ·show (0:Int)≤(m.q[i].cl:Int); omega
  ·show (m.q[i].cl:Int)≤65535; omega
end Go.Proofs.YtdhobdmhnocbgabGreatDoor
