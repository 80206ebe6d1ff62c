import Derived.Test.YtdhobdmhnocbgabGreatDoorSDatas
namespace Go.Proofs.YtdhobdmhnocbgabGreatDoor.Zr
structure Qs where
 name:ByteArray
 ty:Nat
 cl:Nat
structure Rc where
 name:ByteArray
 ty:Nat
 cl:Nat
 ttl:Nat
 data:ByteArray
def Q0j (b:ByteArray) (p:Nat):Except Int (Qs × Nat) :=
 match Q05 b p with
 | .error e=>.error e
 | .ok (s,t)=>if b.size < p+t+4 then .error 2 else .ok (⟨s,num b (p+t) 2,num b (p+t+2) 2⟩,p+t+4)
def Q0U (b:ByteArray) (p:Nat):Except Int (Rc × Nat) :=
 match Q05 b p with
 | .error e=>.error e
 | .ok (s,t) =>
  if b.size < p+t+10 then .error 2
  else if b.size < p+t+10+num b (p+t+8) 2 then .error 2
  else match Q1n b (p+t+10) (num b (p+t+8) 2) (num b (p+t) 2) with
   | none=>.error 4
   | some d=>.ok (⟨s,num b (p+t) 2,num b (p+t+2) 2,num b (p+t+4) 4,d⟩,p+t+10+num b (p+t+8) 2)
def Q1N (b:ByteArray) (k:Nat):Nat→Except Int (List Qs × Nat)
 | 0=>.ok ([],k)
 | i+1=>match Q1N b k i with
  | .error e=>.error e
  | .ok (l,p)=>match Q0j b p with
   | .error e=>.error e
   | .ok (q,p')=>.ok (l++[q],p')
def Q65 (l:List Rc) (x:Rc) (part:Nat):Bool :=
 x.ty == 41 && (l.any (fun y=>y.ty == 41) || part != 2 || decide (x.name≠⟨#[0]⟩))
def Q0V (b:ByteArray) (part k:Nat):Nat→Except Int (List Rc × Nat)
 | 0=>.ok ([],k)
 | i+1=>match Q0V b part k i with
  | .error e=>.error e
  | .ok (l,p)=>match Q0U b p with
   | .error e=>.error e
   | .ok (x,p')=>if Q65 l x part then .error 5 else .ok (l++[x],p')
structure Msg where
 id:Nat
 flags:Nat
 q:List Qs
 a:List Rc
 u:List Rc
 x:List Rc
def Q0X (b:ByteArray):Except Int Msg :=
 if 65535 < b.size then .error 1
 else if b.size < 12 then .error 2
 else match Q1N b 12 (num b 4 2) with
  | .error e=>.error e
  | .ok (q,p1)=>match Q0V b 0 p1 (num b 6 2) with
   | .error e=>.error e
   | .ok (a,p2)=>match Q0V b 1 p2 (num b 8 2) with
    | .error e=>.error e
    | .ok (u,p3)=>match Q0V b 2 p3 (num b 10 2) with
     | .error e=>.error e
     | .ok (x,p4)=>if p4≠b.size then .error 6 else .ok ⟨num b 0 2,num b 2 2,q,a,u,x⟩
theorem Qdo (b:ByteArray) (k j:Nat) (x:Int) (h:Q1N b k j=.error x):∀ i,j≤i→Q1N b k i=.error x:=by
 intro i hi
 obtain ⟨d,rfl⟩:∃ d,i=j+d:=⟨i - j,by omega⟩
 clear hi
 induction d with
 | zero=>exact h
 | succ d ih=>rw [←Nat.add_assoc,Q1N,ih]
theorem Qdu (b:ByteArray) (part k j:Nat) (x:Int) (h:Q0V b part k j=.error x):∀ i,j≤i→Q0V b part k i=.error x:=by
 intro i hi
 obtain ⟨d,rfl⟩:∃ d,i=j+d:=⟨i - j,by omega⟩
 clear hi
 induction d with
 | zero=>exact h
 | succ d ih=>rw [←Nat.add_assoc,Q0V,ih]
theorem Q4I (b:ByteArray) (p:Nat) (q:Qs) (p':Nat) (h:Q0j b p=.ok (q,p')):p+5≤p'∧p'≤b.size∧q.name.size≤255∧q.ty < 65536∧q.cl < 65536:=by
 unfold Q0j at h
 have hb:=Q0F b p
 generalize Q05 b p=x at h hb
 cases x with
 | error e=>simp at h
 | ok z =>
  obtain ⟨s,t⟩:=z
  obtain ⟨h1,h2,h3⟩:=hb s t rfl
  simp only at h
  by_cases c:b.size < p+t+4
  ·rw [if_pos c] at h; simp at h
  ·rw [if_neg c] at h
   simp only [Except.ok.injEq,Prod.mk.injEq] at h
   obtain ⟨rfl,rfl⟩:=h
   exact ⟨by omega,by omega,h3,Q0n _ _,Q0n _ _⟩
theorem Qgc (b:ByteArray) (k n m more:Nat) (hk:k≤b.size) (d:ByteArray) (h:wn b k n m more=some d):d.size≤255 * m+more:=by
 unfold wn at h
 have hb:=Q9V b k hk m
 generalize Q0b b k m=x at h hb
 cases x with
 | error e=>simp at h
 | ok z =>
  obtain ⟨s,p⟩:=z
  obtain ⟨h1,h2,h3⟩:=hb s p rfl
  simp only at h
  by_cases c:p+more=k+n
  ·rw [if_pos c] at h
   simp only [Option.some.injEq] at h
   subst h
   rw [ByteArray.size_append,ByteArray.size_extract]; omega
  ·rw [if_neg c] at h; simp at h
theorem Qeo (b:ByteArray) (k n t:Nat) (hk:k+n≤b.size) (d:ByteArray) (h:Q1n b k n t=some d):d.size≤530+n:=by
 unfold Q1n at h
 by_cases c1:t=2∨t=5∨t=12
 ·rw [if_pos c1] at h; have:=Qgc b k n 1 0 (by omega) d h; omega
 ·rw [if_neg c1] at h
  by_cases c2:t=6
  ·rw [if_pos c2] at h; have:=Qgc b k n 2 20 (by omega) d h; omega
  ·rw [if_neg c2] at h
   split at h
   ·simp only [Option.some.injEq] at h
    subst h
    rw [ByteArray.size_extract]; omega
   ·simp at h
theorem Q5O (b:ByteArray) (p:Nat) (x:Rc) (p':Nat) (h:Q0U b p=.ok (x,p')) :
  p+11≤p'∧p'≤b.size∧x.name.size≤255∧x.ty < 65536∧x.cl < 65536∧x.ttl < 4294967296∧x.data.size≤530+b.size:=by
 unfold Q0U at h
 have hb:=Q0F b p
 generalize Q05 b p=y at h hb
 cases y with
 | error e=>simp at h
 | ok z =>
  obtain ⟨s,t⟩:=z
  obtain ⟨h1,h2,h3⟩:=hb s t rfl
  simp only at h
  by_cases c:b.size < p+t+10
  ·rw [if_pos c] at h; simp at h
  ·rw [if_neg c] at h
   by_cases c':b.size < p+t+10+num b (p+t+8) 2
   ·rw [if_pos c'] at h; simp at h
   ·rw [if_neg c'] at h
    have hd:=Qeo b (p+t+10) (num b (p+t+8) 2) (num b (p+t) 2) (by omega)
    generalize Q1n b (p+t+10) (num b (p+t+8) 2) (num b (p+t) 2)=y at h hd
    cases y with
    | none=>simp at h
    | some d =>
     simp only [Except.ok.injEq,Prod.mk.injEq] at h
     obtain ⟨rfl,rfl⟩:=h
     have hd':=hd d rfl
     exact ⟨by omega,by omega,h3,Q0n _ _,Q0n _ _,QeH b _ 4,by show d.size≤_; omega⟩
theorem Q8U (b:ByteArray) (k:Nat) (hk:k≤b.size):∀ i l p,Q1N b k i=.ok (l,p)→l.length=i∧k+5 * i≤p∧p≤b.size:=by
 intro i
 induction i with
 | zero =>
  intro l p h
  simp only [Q1N,Except.ok.injEq,Prod.mk.injEq] at h
  obtain ⟨rfl,rfl⟩:=h
  exact ⟨rfl,by omega,hk⟩
 | succ i ih =>
  intro l p h
  rw [Q1N] at h
  generalize Q1N b k i=x at h ih
  cases x with
  | error e=>simp at h
  | ok z =>
   obtain ⟨l',p'⟩:=z
   obtain ⟨h1,h2,h3⟩:=ih l' p' rfl
   simp only at h
   have hb:=Q4I b p'
   generalize Q0j b p'=y at h hb
   cases y with
   | error e=>simp at h
   | ok z =>
    obtain ⟨q,p''⟩:=z
    obtain ⟨g1,g2,_⟩:=hb q p'' rfl
    simp only [Except.ok.injEq,Prod.mk.injEq] at h
    obtain ⟨rfl,rfl⟩:=h
    exact ⟨by simp [h1],by omega,g2⟩
theorem Q4J (b:ByteArray) (part k:Nat) (hk:k≤b.size):∀ i l p,Q0V b part k i=.ok (l,p)→l.length=i∧k+11 * i≤p∧p≤b.size:=by
 intro i
 induction i with
 | zero =>
  intro l p h
  simp only [Q0V,Except.ok.injEq,Prod.mk.injEq] at h
  obtain ⟨rfl,rfl⟩:=h
  exact ⟨rfl,by omega,hk⟩
 | succ i ih =>
  intro l p h
  rw [Q0V] at h
  generalize Q0V b part k i=x at h ih
  cases x with
  | error e=>simp at h
  | ok z =>
   obtain ⟨l',p'⟩:=z
   obtain ⟨h1,h2,h3⟩:=ih l' p' rfl
   simp only at h
   have hb:=Q5O b p'
   generalize Q0U b p'=y at h hb
   cases y with
   | error e=>simp at h
   | ok z =>
    obtain ⟨q,p''⟩:=z
    obtain ⟨g1,g2,_⟩:=hb q p'' rfl
    simp only at h
    split at h
    ·simp at h
    ·simp only [Except.ok.injEq,Prod.mk.injEq] at h
     obtain ⟨rfl,rfl⟩:=h
     exact ⟨by simp [h1],by omega,g2⟩
end Go.Proofs.YtdhobdmhnocbgabGreatDoor.Zr
