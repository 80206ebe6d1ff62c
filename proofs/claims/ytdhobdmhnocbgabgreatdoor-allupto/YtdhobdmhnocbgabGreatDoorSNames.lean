import Derived.Test.YtdhobdmhnocbgabGreatDoorSPure
namespace Go.Proofs.YtdhobdmhnocbgabGreatDoor.Zr
theorem Q2z (b:ByteArray) (i:Nat):b.extract i i=⟨#[]⟩:=by
 apply ByteArray.ext
 simp
theorem empty_append (s:ByteArray):(⟨#[]⟩:ByteArray)++s=s:=by
 apply ByteArray.ext
 simp [ByteArray.data_append]
theorem Q07 (a b c:ByteArray):a++b++c=a++(b++c):=by
 apply ByteArray.ext
 simp [ByteArray.data_append,Array.append_assoc]
theorem Q1t (b:ByteArray) (i j k:Nat) (h1:i≤j) (h2:j≤k) (h3:k≤b.size):b.extract i j++b.extract j k=b.extract i k:=by
 apply ByteArray.ext
 have h3':k≤b.data.size:=h3
 simp only [ByteArray.data_append,ByteArray.data_extract]
 rw [Array.extract_append_extract]
 congr 1 <;> omega
theorem Q0Z (b:ByteArray) (i j:Nat) (h1:i≤j) (h2:j≤b.size):(b.extract i j).size=j - i:=by
 rw [ByteArray.size_extract]; omega
def Q7q (b:ByteArray) (start front k:Nat) (r:Run):Prop :=
  (r.fail≠0∧r.pointed=false∧r.labels=⟨#[]⟩∧Q3l b k start (front+(k - start))=.error r.fail) ∨
  (r.fail=0∧∃ suf,r.labels=b.extract start k++suf∧(k:Int)≤r.next∧r.next≤b.size∧front+r.labels.size≤254 ∧
    ((r.pointed=false∧Q3l b k start (front+(k - start))=.ok (suf++⟨#[0]⟩,(r.next - k).toNat)) ∨
     (r.pointed=true∧0≤r.to∧r.to < start∧Q3l b k start (front+(k - start)) =
        match Q3l b r.to.toNat r.to.toNat (front+r.labels.size) with
        | .ok (s,_)=>.ok (suf++s,(r.next - k).toNat)
        | .error e=>.error e)))
theorem Qhi (b:ByteArray) (start front:Nat):∀ (f k:Nat),b.size < k+f→start≤k→(k≤b.size∨k=start)→front+(k - start)≤254 →
  Q7q b start front k (Q1g b start (254 - (front:Int)) f k):=by
 intro f
 induction f with
 | zero =>
  intro k h _ _ _
  refine .inl ⟨by simp [Q1g,Run.bad],rfl,rfl,?_⟩
  rw [Q2B,if_pos (by omega)]; rfl
 | succ f ih =>
  intro k hf hs hk hfr
  by_cases c0:b.size≤k
  ·refine .inl ?_
   simp only [Q1g,if_pos c0]
   refine ⟨by simp [Run.bad],rfl,rfl,?_⟩
   rw [Q2B,if_pos c0]; rfl
  ·by_cases c1:bt b k=0
   ·refine .inr ?_
    simp only [Q1g,if_neg c0,if_pos c1]
    refine ⟨by trivial,⟨#[]⟩,?_,by omega,by omega,?_,.inl ⟨by trivial,?_⟩⟩
    ·apply ByteArray.ext; simp [ByteArray.data_append]
    ·rw [Q0Z _ _ _ hs (by omega)]; omega
    ·rw [Q2B,if_neg c0,if_pos c1,empty_append]; congr 2; omega
   ·by_cases c2:63 < bt b k
    ·simp only [Q1g,if_neg c0,if_neg c1,if_pos c2,ptr]
     by_cases c3:bt b k < 192
     ·refine .inl ?_
      simp only [if_pos c3]
      refine ⟨by simp [Run.bad],rfl,rfl,?_⟩
      rw [Q2B,if_neg c0,if_neg c1,if_pos c2,if_pos c3]; rfl
     ·by_cases c4:b.size≤k+1
      ·refine .inl ?_
       simp only [if_neg c3,if_pos c4]
       refine ⟨by simp [Run.bad],rfl,rfl,?_⟩
       rw [Q2B,if_neg c0,if_neg c1,if_pos c2,if_neg c3,if_pos c4]; rfl
      ·by_cases c5:start≤256 * (bt b k - 192)+bt b (k+1)
       ·refine .inl ?_
        simp only [if_neg c3,if_neg c4,if_pos c5]
        refine ⟨by simp [Run.bad],rfl,rfl,?_⟩
        rw [Q2B,if_neg c0,if_neg c1,if_pos c2,if_neg c3,if_neg c4,if_pos c5]; rfl
       ·refine .inr ?_
        simp only [if_neg c3,if_neg c4,if_neg c5]
        have hsz:=Q0Z b start k hs (by omega)
        refine ⟨by trivial,⟨#[]⟩,?_,by omega,by omega,by rw [hsz]; omega,.inr ⟨by trivial,by omega,by omega,?_⟩⟩
        ·apply ByteArray.ext; simp [ByteArray.data_append]
        ·rw [Q2B,if_neg c0,if_neg c1,if_pos c2,if_neg c3,if_neg c4,if_neg c5,Int.toNat_natCast,hsz]
         generalize Q3l b (256 * (bt b k - 192)+bt b (k+1)) (256 * (bt b k - 192)+bt b (k+1)) (front+(k - start))=x
         have e2:((k:Int)+2 - k).toNat=2:=by omega
         rw [e2]
         cases x with
         | error e=>rfl
         | ok p=>obtain ⟨s,t⟩:=p; simp [empty_append]
    ·by_cases c3:b.size < k+1+bt b k
     ·refine .inl ?_
      simp only [Q1g,if_neg c0,if_neg c1,if_neg c2,if_pos c3]
      refine ⟨by simp [Run.bad],rfl,rfl,?_⟩
      rw [Q2B,if_neg c0,if_neg c1,if_neg c2,if_pos c3]; rfl
     ·by_cases c4:255 < front+(k - start)+1+bt b k+1
      ·refine .inl ?_
       have c4':254 - (front:Int) < ((k+1+bt b k:Nat):Int) - start:=by omega
       simp only [Q1g,if_neg c0,if_neg c1,if_neg c2,if_neg c3,if_pos c4']
       refine ⟨by simp [Run.bad],rfl,rfl,?_⟩
       rw [Q2B,if_neg c0,if_neg c1,if_neg c2,if_neg c3,if_pos c4]; rfl
      ·have c4':¬ (254 - (front:Int) < ((k+1+bt b k:Nat):Int) - start):=by omega
       have hi:=ih (k+1+bt b k) (by omega) (by omega) (by omega) (by omega)
       have he:Q1g b start (254 - (front:Int)) (f+1) k=Q1g b start (254 - (front:Int)) f (k+1+bt b k):=by
        conv=>lhs; rw [Q1g]
        rw [if_neg c0,if_neg c1,if_neg c2,if_neg c3,if_neg c4']
       rw [he]
       have hn:Q3l b k start (front+(k - start))=match Q3l b (k+1+bt b k) start (front+(k+1+bt b k - start)) with
         | .ok (s,t)=>.ok (b.extract k (k+1+bt b k)++s,1+bt b k+t)
         | .error e=>.error e:=by
        conv=>lhs; rw [Q2B]
        rw [if_neg c0,if_neg c1,if_neg c2,if_neg c3,if_neg c4]
        have:front+(k - start)+1+bt b k=front+(k+1+bt b k - start):=by omega
        rw [this]
        generalize Q3l b (k+1+bt b k) start (front+(k+1+bt b k - start))=x
        cases x <;> rfl
       unfold Q7q
       rw [hn]
       generalize Q1g b start (254 - (front:Int)) f (k+1+bt b k)=r at hi ⊢
       rcases hi with ⟨h1,h2,h0,h3⟩ | ⟨h1,suf,h2,h3,h4,h5,h6⟩
       ·refine .inl ⟨h1,h2,h0,?_⟩
        rw [h3]
       ·refine .inr ⟨h1,b.extract k (k+1+bt b k)++suf,?_,by omega,h4,h5,?_⟩
        ·rw [h2,←Q07,Q1t b start k _ hs (by omega) (by omega)]
        ·rcases h6 with ⟨h6,h7⟩ | ⟨h6,h7,h8,h9⟩
         ·refine .inl ⟨h6,?_⟩
          rw [h7]
          simp only [Q07]
          congr 2
          omega
         ·refine .inr ⟨h6,h7,h8,?_⟩
          rw [h9]
          generalize Q3l b r.to.toNat r.to.toNat (front+r.labels.size)=x
          cases x with
          | error e=>rfl
          | ok p =>
           obtain ⟨s,t⟩:=p
           simp only [Q07]
           congr 2
           omega
theorem QdF (b:ByteArray) (start front:Nat) (hf:front≤254):Q7q b start front start (Q15 b start (254 - (front:Int))) :=
 Qhi b start front (b.size+1) start (by omega) (Nat.le_refl _) (.inr rfl) (by omega)
def Q48 (b:ByteArray) (L:ByteArray) (r:Run):Except Int ByteArray :=
 if r.pointed then match Q3l b r.to.toNat r.to.toNat L.size with
  | .ok (s,_)=>.ok (L++s)
  | .error e=>.error e
 else if r.fail≠0 then .error r.fail else .ok (L++⟨#[0]⟩)
theorem QcG (b:ByteArray) (L:ByteArray) (r:Run) (hp:r.pointed=true) (hL:L.size≤254) :
  Q48 b L r=Q48 b (L++(Q15 b r.to.toNat (254 - (L.size:Int))).labels) (Q15 b r.to.toNat (254 - (L.size:Int))) ∧
  L.size+(Q15 b r.to.toNat (254 - (L.size:Int))).labels.size≤254 ∧
  ((Q15 b r.to.toNat (254 - (L.size:Int))).pointed=true→0≤(Q15 b r.to.toNat (254 - (L.size:Int))).to∧(Q15 b r.to.toNat (254 - (L.size:Int))).to < r.to.toNat∧(Q15 b r.to.toNat (254 - (L.size:Int))).fail=0):=by
 have hs:=QdF b r.to.toNat L.size hL
 generalize Q15 b r.to.toNat (254 - (L.size:Int))=q at hs ⊢
 unfold Q7q at hs
 simp only [Nat.sub_self,Nat.add_zero,Q2z,empty_append] at hs
 unfold Q48
 rw [if_pos hp]
 rcases hs with ⟨h1,h2,h0,h3⟩ | ⟨h1,suf,h2,h3,h4,h5,h6⟩
 ·refine ⟨?_,by rw [h0]; exact hL,fun h=>by rw [h2] at h; exact absurd h (by decide)⟩
  rw [h3,h2,if_neg (by decide),if_pos h1]
 ·subst h2
  rcases h6 with ⟨h6,h7⟩ | ⟨h6,h7,h8,h9⟩
  ·refine ⟨?_,h5,fun h=>by rw [h6] at h; exact absurd h (by decide)⟩
   rw [h7,h6,if_neg (by decide),if_neg (by rw [h1]; simp),Q07]
  ·refine ⟨?_,h5,fun _=>⟨h7,h8,h1⟩⟩
   rw [h9,h6,if_pos rfl,ByteArray.size_append]
   generalize Q3l b q.to.toNat q.to.toNat (L.size+q.labels.size)=x
   cases x with
   | error e=>rfl
   | ok p=>obtain ⟨s,t⟩:=p; simp only [Q07]
def Q05 (b:ByteArray) (k:Nat):Except Int (ByteArray × Nat):=Q3l b k k 0
theorem Q9U (b:ByteArray) (k:Nat) :
  (Q15 b k 254).labels.size≤254∧((Q15 b k 254).fail=0→(k:Int)≤(Q15 b k 254).next∧(Q15 b k 254).next≤b.size) ∧
  ((Q15 b k 254).pointed=true→0≤(Q15 b k 254).to∧(Q15 b k 254).to < k∧(Q15 b k 254).fail=0) ∧
  Q05 b k=match Q48 b (Q15 b k 254).labels (Q15 b k 254) with
   | .ok s=>.ok (s,((Q15 b k 254).next - k).toNat)
   | .error e=>.error e:=by
 have hs:=QdF b k 0 (by omega)
 have e0:(254:Int) - ((0:Nat):Int)=254:=by omega
 rw [e0] at hs
 generalize Q15 b k 254=q at hs ⊢
 unfold Q7q at hs
 simp only [Nat.sub_self,Nat.add_zero,Q2z,empty_append,Nat.zero_add] at hs
 unfold Q05 Q48
 rcases hs with ⟨h1,h2,h0,h3⟩ | ⟨h1,suf,h2,h3,h4,h5,h6⟩
 ·refine ⟨by rw [h0]; exact Nat.zero_le _,fun h=>absurd h h1,fun h=>by rw [h2] at h; exact absurd h (by decide),?_⟩
  rw [h3,h2,if_neg (by decide),if_pos h1]
 ·subst h2
  rcases h6 with ⟨h6,h7⟩ | ⟨h6,h7,h8,h9⟩
  ·refine ⟨h5,fun _=>⟨h3,h4⟩,fun h=>by rw [h6] at h; exact absurd h (by decide),?_⟩
   rw [h7,h6,if_neg (by decide),if_neg (by rw [h1]; simp)]
  ·refine ⟨h5,fun _=>⟨h3,h4⟩,fun _=>⟨h7,h8,h1⟩,?_⟩
   rw [h9,h6,if_pos rfl]
   generalize Q3l b q.to.toNat q.to.toNat q.labels.size=x
   cases x with
   | error e=>rfl
   | ok p=>rfl
theorem Q5V (b:ByteArray) (L:ByteArray) (r:Run) (hp:r.pointed=false) (hf:r.fail≠0):Q48 b L r=.error r.fail:=by
 unfold Q48; rw [hp,if_neg (by decide),if_pos hf]
theorem Q6Y (b:ByteArray) (L:ByteArray) (r:Run) (hp:r.pointed=false) (hf:r.fail=0):Q48 b L r=.ok (L++⟨#[0]⟩):=by
 unfold Q48; rw [hp,if_neg (by decide),if_neg (by simp [hf])]
end Go.Proofs.YtdhobdmhnocbgabGreatDoor.Zr
