import Derived.Test.YtdhobdmhnocbgabGreatDoorSNames
namespace Go.Proofs.YtdhobdmhnocbgabGreatDoor.Zr
def Q56 (s:ByteArray) (a wd:Nat):Nat→Nat→Bool
 | 0,_=>true
 | f+1,k =>
  if s.size≤k then true
  else if s.size < k+a then false
  else if s.size < k+a+wd then false
  else if s.size < k+a+wd+num s (k+a) wd then false
  else Q56 s a wd f (k+a+wd+num s (k+a) wd)
def Q2Q (s:ByteArray) (a wd:Nat):Bool:=Q56 s a wd (s.size+1) 0
theorem QbF (s:ByteArray) (a wd:Nat) (hw:1≤wd):∀ (f g k:Nat),s.size < k+f→s.size < k+g→Q56 s a wd f k=Q56 s a wd g k:=by
 intro f
 induction f with
 | zero=>intro g k h1 h2; cases g with
  | zero=>rfl
  | succ g=>simp only [Q56]; rw [if_pos (by omega)]
 | succ f ih=>intro g k h1 h2; cases g with
  | zero=>simp only [Q56]; rw [if_pos (by omega)]
  | succ g =>
   simp only [Q56]
   rw [ih g _ (by omega) (by omega)]
def Qav (s:ByteArray):Bool:=(Q15 s 6 254).fail == 0 && !(Q15 s 6 254).pointed && (Q15 s 6 254).next == s.size
def Q2q (t:Nat) (s:ByteArray):Bool :=
 if t=1 then s.size == 4
 else if t=28 then s.size == 16
 else if t=33 then Qav s
 else if t=16 then s.size != 0 && Q2Q s 0 1
 else if t=41 then Q2Q s 2 2
 else true
def Q0b (b:ByteArray) (k:Nat):Nat→Except Int (ByteArray × Nat)
 | 0=>.ok (⟨#[]⟩,k)
 | i+1=>match Q0b b k i with
  | .error e=>.error e
  | .ok (s,p)=>match Q05 b p with
   | .error e=>.error e
   | .ok (x,t)=>.ok (s++x,p+t)
def wn (b:ByteArray) (k n names rest:Nat):Option ByteArray :=
 match Q0b b k names with
 | .error _=>none
 | .ok (s,p)=>if p+rest=k+n then some (s++b.extract p (p+rest)) else none
def Q1n (b:ByteArray) (k n t:Nat):Option ByteArray :=
 if t=2∨t=5∨t=12 then wn b k n 1 0
 else if t=6 then wn b k n 2 20
 else if Q2q t (b.extract k (k+n)) then some (b.extract k (k+n)) else none
theorem Q8Q (b:ByteArray) (k j:Nat) (x:Int) (h:Q0b b k j=.error x):∀ i,j≤i→∃ y,Q0b b k i=.error y:=by
 intro i hi
 obtain ⟨d,rfl⟩:∃ d,i=j+d:=⟨i - j,by omega⟩
 clear hi
 induction d with
 | zero=>exact ⟨x,h⟩
 | succ d ih =>
  obtain ⟨y,hy⟩:=ih
  exact ⟨y,by rw [←Nat.add_assoc,Q0b,hy]⟩
theorem QjE (b:ByteArray) (k n m more:Nat) (x:Int) (h:Q0b b k m=.error x):wn b k n m more=none:=by
 unfold wn; rw [h]
theorem QjF (b:ByteArray) (k n m more:Nat) (s:ByteArray) (p:Nat) (h:Q0b b k m=.ok (s,p)) (hp:p+more≠k+n):wn b k n m more=none:=by
 unfold wn; rw [h]; simp only; rw [if_neg hp]
theorem QjG (b:ByteArray) (k n m more:Nat) (s:ByteArray) (p:Nat) (h:Q0b b k m=.ok (s,p)) (hp:p+more=k+n):wn b k n m more=some (s++b.extract p (p+more)):=by
 unfold wn; rw [h]; simp only; rw [if_pos hp]
theorem Q8R (b:ByteArray):∀ (f k run front:Nat),front≤254→∀ s t,nm b f k run front=.ok (s,t)→1≤t∧k+t≤b.size∧front+s.size≤255:=by
 intro f
 induction f with
 | zero=>intro k run front _ s t h; simp [nm] at h
 | succ f ih =>
  intro k run front hf s t h
  rw [nm] at h
  by_cases c0:b.size≤k
  ·rw [if_pos c0] at h; simp at h
  ·rw [if_neg c0] at h
   by_cases c1:bt b k=0
   ·rw [if_pos c1] at h
    simp only [Except.ok.injEq,Prod.mk.injEq] at h
    obtain ⟨rfl,rfl⟩:=h
    refine ⟨by omega,by omega,?_⟩
    show front+1≤255
    omega
   ·rw [if_neg c1] at h
    by_cases c2:63 < bt b k
    ·rw [if_pos c2] at h
     by_cases c3:bt b k < 192
     ·rw [if_pos c3] at h; simp at h
     ·rw [if_neg c3] at h
      by_cases c4:b.size≤k+1
      ·rw [if_pos c4] at h; simp at h
      ·rw [if_neg c4] at h
       by_cases c5:run≤256 * (bt b k - 192)+bt b (k+1)
       ·rw [if_pos c5] at h; simp at h
       ·rw [if_neg c5] at h
        have hi:=ih (256 * (bt b k - 192)+bt b (k+1)) (256 * (bt b k - 192)+bt b (k+1)) front hf
        generalize nm b f (256 * (bt b k - 192)+bt b (k+1)) (256 * (bt b k - 192)+bt b (k+1)) front=x at h hi
        cases x with
        | error e=>simp at h
        | ok p =>
         obtain ⟨s',t'⟩:=p
         simp only [Except.ok.injEq,Prod.mk.injEq] at h
         obtain ⟨rfl,rfl⟩:=h
         have:=hi s' t' rfl
         exact ⟨by omega,by omega,this.2.2⟩
    ·rw [if_neg c2] at h
     by_cases c3:b.size < k+1+bt b k
     ·rw [if_pos c3] at h; simp at h
     ·rw [if_neg c3] at h
      by_cases c4:255 < front+1+bt b k+1
      ·rw [if_pos c4] at h; simp at h
      ·rw [if_neg c4] at h
       have hi:=ih (k+1+bt b k) run (front+1+bt b k) (by omega)
       generalize nm b f (k+1+bt b k) run (front+1+bt b k)=x at h hi
       cases x with
       | error e=>simp at h
       | ok p =>
        obtain ⟨s',t'⟩:=p
        simp only [Except.ok.injEq,Prod.mk.injEq] at h
        obtain ⟨rfl,rfl⟩:=h
        have:=hi s' t' rfl
        refine ⟨by omega,by omega,?_⟩
        rw [ByteArray.size_append,Q0Z _ _ _ (by omega) (by omega)]
        omega
theorem Q0F (b:ByteArray) (k:Nat) (s:ByteArray) (t:Nat) (h:Q05 b k=.ok (s,t)):1≤t∧k+t≤b.size∧s.size≤255:=by
 have:=Q8R b _ k k 0 (by omega) s t h
 exact ⟨this.1,this.2.1,by omega⟩
theorem Q9V (b:ByteArray) (k:Nat) (hk:k≤b.size):∀ i s p,Q0b b k i=.ok (s,p)→k≤p∧p≤b.size∧s.size≤255 * i:=by
 intro i
 induction i with
 | zero =>
  intro s p h
  simp only [Q0b,Except.ok.injEq,Prod.mk.injEq] at h
  obtain ⟨rfl,rfl⟩:=h
  exact ⟨Nat.le_refl _,hk,by simp [ByteArray.size]⟩
 | succ i ih =>
  intro s p h
  rw [Q0b] at h
  generalize Q0b b k i=x at h ih
  cases x with
  | error e=>simp at h
  | ok q =>
   obtain ⟨s',p'⟩:=q
   simp only at h
   obtain ⟨h1,h2,h3⟩:=ih s' p' rfl
   have hb:=Q0F b p'
   generalize Q05 b p'=y at h hb
   cases y with
   | error e=>simp at h
   | ok z =>
    obtain ⟨x',t'⟩:=z
    simp only [Except.ok.injEq,Prod.mk.injEq] at h
    obtain ⟨rfl,rfl⟩:=h
    obtain ⟨g1,g2,g3⟩:=hb x' t' rfl
    exact ⟨by omega,by omega,by rw [ByteArray.size_append]; omega⟩
end Go.Proofs.YtdhobdmhnocbgabGreatDoor.Zr
