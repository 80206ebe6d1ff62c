import Derived.Test.YtdhobdmhnocbgabGreatDoorSRecs
namespace Go.Proofs.YtdhobdmhnocbgabGreatDoor.Zr
theorem Qks (b:ByteArray) (i n p:Nat) (hn:i+n≤b.size):∀ k,p+k≤n→num (b.extract i (i+n)) p k=num b (i+p) k:=by
 intro k
 induction k with
 | zero=>intro _; rfl
 | succ k ih =>
  intro hk
  simp only [num]
  rw [ih (by omega),Q6Z b i n (p+k) (by omega) hn,Nat.add_assoc]
theorem Q0L (s:ByteArray) (k:Nat) (hk:k≤s.size):(s.extract k s.size).size=s.size - k:=Q0Z s k s.size hk (Nat.le_refl _)
theorem Q9Y (s:ByteArray) (k p n:Nat) (h:k+p+n≤s.size):num (s.extract k s.size) p n=num s (k+p) n:=by
 have e:s.extract k s.size=s.extract k (k+(s.size - k)):=by congr 1; omega
 rw [e]
 exact Qks s k (s.size - k) p (by omega) n (by omega)
theorem Q99 (s:ByteArray) (k p:Nat) (h:k+p < s.size):bt (s.extract k s.size) p=bt s (k+p):=by
 have e:s.extract k s.size=s.extract k (k+(s.size - k)):=by congr 1; omega
 rw [e]
 exact Q6Z s k (s.size - k) p (by omega) (by omega)
theorem Qf6 (s:ByteArray) (a wd k:Nat) (hk:k≤s.size):∀ (f j:Nat),Q56 s a wd f (k+j)=Q56 (s.extract k s.size) a wd f j:=by
 have hz:=Q0L s k hk
 intro f
 induction f with
 | zero=>intro j; rfl
 | succ f ih =>
  intro j
  simp only [Q56,hz]
  by_cases c1:s.size≤k+j
  ·have d1:s.size - k≤j:=by omega
   rw [if_pos c1,if_pos d1]
  ·have d1:¬ (s.size - k≤j):=by omega
   rw [if_neg c1,if_neg d1]
   by_cases c2:s.size < k+j+a
   ·have d2:s.size - k < j+a:=by omega
    rw [if_pos c2,if_pos d2]
   ·have d2:¬ (s.size - k < j+a):=by omega
    rw [if_neg c2,if_neg d2]
    by_cases c3:s.size < k+j+a+wd
    ·have d3:s.size - k < j+a+wd:=by omega
     rw [if_pos c3,if_pos d3]
    ·have d3:¬ (s.size - k < j+a+wd):=by omega
     rw [if_neg c3,if_neg d3]
     have hn:num (s.extract k s.size) (j+a) wd=num s (k+j+a) wd:=by rw [Q9Y s k (j+a) wd (by omega),Nat.add_assoc]
     rw [hn]
     by_cases c4:s.size < k+j+a+wd+num s (k+j+a) wd
     ·have d4:s.size - k < j+a+wd+num s (k+j+a) wd:=by omega
      rw [if_pos c4,if_pos d4]
     ·have d4:¬ (s.size - k < j+a+wd+num s (k+j+a) wd):=by omega
      rw [if_neg c4,if_neg d4,←ih]
      congr 1
      omega
theorem QbE (s:ByteArray) (a wd:Nat) (hw:1≤wd) (h:s.size≠0):Q2Q s a wd =
  if s.size < a+wd then false else if s.size < a+wd+num s a wd then false else Q2Q (s.extract (a+wd+num s a wd) s.size) a wd:=by
 unfold Q2Q
 conv=>lhs; rw [Q56]
 simp only [Nat.zero_add]
 have c0:¬ (s.size≤0):=by omega
 rw [if_neg c0]
 by_cases c1:s.size < a+wd
 ·rw [if_pos c1,if_pos c1]
  split <;> rfl
 ·have c1':¬ (s.size < a):=by omega
  rw [if_neg c1',if_neg c1,if_neg c1]
  by_cases c2:s.size < a+wd+num s a wd
  ·rw [if_pos c2,if_pos c2]
  ·rw [if_neg c2,if_neg c2]
   have hz:=Q0L s (a+wd+num s a wd) (by omega)
   have hs:=Qf6 s a wd (a+wd+num s a wd) (by omega) s.size 0
   rw [Nat.add_zero] at hs
   rw [hs]
   exact QbF _ a wd hw _ _ 0 (by omega) (by omega)
theorem QdC (s:ByteArray) (a wd:Nat) (h:s.size=0):Q2Q s a wd=true:=by
 unfold Q2Q
 rw [Q56,if_pos (by omega)]
def Q09 (s:ByteArray):Bool :=
 match Q05 s 0 with
 | .error _=>false
 | .ok (t,k)=>k == s.size && decide (t=s)
def Qmb (s':ByteArray) (r r':Run):Prop :=
 (¬ (r.fail=0∧r.pointed=false)∧¬ (r'.fail=0)) ∨
 (r.fail=0∧r.pointed=false∧r'.fail=0∧r'.pointed=false∧r.next=r'.next+6∧0≤r'.next∧r'.next≤s'.size∧r'.labels++⟨#[0]⟩=s'.extract 0 r'.next.toNat)
theorem Q59 (s:ByteArray) (k:Nat) (h:k < s.size) (h0:bt s k=0):s.extract k (k+1)=⟨#[0]⟩:=by
 apply ByteArray.ext
 rw [ByteArray.data_extract]
 have h':k < s.data.size:=h
 rw [←Q10 s k h] at h0
 have h1:s[k]=0:=by
  apply UInt8.toNat_inj.1
  rw [h0]; rfl
 have h2:s.data[k]=0:=h1
 apply Array.ext
 ·simp; omega
 ·intro i hi1 hi2
  simp at hi2
  subst hi2
  simp [h2]
theorem Qf7 (s:ByteArray) (h6:6≤s.size) (room:Int):∀ (f k:Nat),k≤s.size - 6→Qmb (s.extract 6 s.size) (Q1g s 6 room f (6+k)) (Q1g (s.extract 6 s.size) 0 room f k):=by
 have hz:=Q0L s 6 h6
 intro f
 induction f with
 | zero=>intro k _; exact .inl ⟨by simp [Q1g,Run.bad],by simp [Q1g,Run.bad]⟩
 | succ f ih =>
  intro k hk
  by_cases c0:s.size≤6+k
  ·have e1:Q1g s 6 room (f+1) (6+k)=Run.bad 2:=by rw [Q1g,if_pos c0]
   have e2:Q1g (s.extract 6 s.size) 0 room (f+1) k=Run.bad 2:=by rw [Q1g,if_pos (by omega)]
   rw [e1,e2]
   exact .inl ⟨by simp [Run.bad],by simp [Run.bad]⟩
  ·have hb:=Q99 s 6 k (by omega)
   by_cases c1:bt s (6+k)=0
   ·have e1:Q1g s 6 room (f+1) (6+k)=⟨s.extract 6 (6+k),((6+k:Nat):Int)+1,false,0,0⟩:=by rw [Q1g,if_neg c0,if_pos c1]
    have e2:Q1g (s.extract 6 s.size) 0 room (f+1) k=⟨(s.extract 6 s.size).extract 0 k,(k:Int)+1,false,0,0⟩:=by rw [Q1g,if_neg (by omega),if_pos (by rw [hb]; exact c1)]
    rw [e1,e2]
    refine .inr ⟨rfl,rfl,rfl,rfl,?_,?_,?_,?_⟩
    ·simp only; omega
    ·simp only; omega
    ·simp only; omega
    ·simp only
     have e3:((k:Int)+1).toNat=k+1:=by omega
     rw [e3,←Q59 (s.extract 6 s.size) k (by omega) (by rw [hb]; exact c1),Q1t _ 0 k (k+1) (by omega) (by omega) (by omega)]
   ·by_cases c2:63 < bt s (6+k)
    ·have e1:Q1g s 6 room (f+1) (6+k)=ptr s 6 (6+k):=by rw [Q1g,if_neg c0,if_neg c1,if_pos c2]
     have e2:Q1g (s.extract 6 s.size) 0 room (f+1) k=ptr (s.extract 6 s.size) 0 k:=by rw [Q1g,if_neg (by omega),if_neg (by rw [hb]; exact c1),if_pos (by rw [hb]; exact c2)]
     rw [e1,e2]
     refine .inl ⟨?_,?_⟩
     ·unfold ptr
      split
      ·simp [Run.bad]
      ·split
       ·simp [Run.bad]
       ·split
        ·simp [Run.bad]
        ·simp
     ·unfold ptr
      split
      ·simp [Run.bad]
      ·split
       ·simp [Run.bad]
       ·rw [if_pos (Nat.zero_le _)]; simp [Run.bad]
    ·by_cases c3:s.size < 6+k+1+bt s (6+k)
     ·have e1:Q1g s 6 room (f+1) (6+k)=Run.bad 2:=by rw [Q1g,if_neg c0,if_neg c1,if_neg c2,if_pos c3]
      have e2:Q1g (s.extract 6 s.size) 0 room (f+1) k=Run.bad 2:=by rw [Q1g,if_neg (by omega),if_neg (by rw [hb]; exact c1),if_neg (by rw [hb]; exact c2),if_pos (by rw [hb]; omega)]
      rw [e1,e2]
      exact .inl ⟨by simp [Run.bad],by simp [Run.bad]⟩
     ·by_cases c4:room < ((6+k+1+bt s (6+k):Nat):Int) - (6:Nat)
      ·have e1:Q1g s 6 room (f+1) (6+k)=Run.bad 3:=by rw [Q1g,if_neg c0,if_neg c1,if_neg c2,if_neg c3,if_pos c4]
       have e2:Q1g (s.extract 6 s.size) 0 room (f+1) k=Run.bad 3:=by rw [Q1g,if_neg (by omega),if_neg (by rw [hb]; exact c1),if_neg (by rw [hb]; exact c2),if_neg (by rw [hb]; omega),if_pos (by rw [hb]; omega)]
       rw [e1,e2]
       exact .inl ⟨by simp [Run.bad],by simp [Run.bad]⟩
      ·have e1:Q1g s 6 room (f+1) (6+k)=Q1g s 6 room f (6+(k+1+bt s (6+k))):=by
        conv=>lhs; rw [Q1g]
        rw [if_neg c0,if_neg c1,if_neg c2,if_neg c3,if_neg c4]
        congr 1
        omega
       have e2:Q1g (s.extract 6 s.size) 0 room (f+1) k=Q1g (s.extract 6 s.size) 0 room f (k+1+bt s (6+k)):=by
        conv=>lhs; rw [Q1g]
        rw [hb,if_neg (by omega),if_neg c1,if_neg c2,if_neg (by omega),if_neg (by omega)]
       rw [e1,e2]
       exact ih _ (by omega)
theorem QbK (s:ByteArray) (h6:6≤s.size):Qav s=Q09 (s.extract 6 s.size):=by
 have hz:=Q0L s 6 h6
 have ht:=Qf7 s h6 254 (s.size+1) 0 (Nat.zero_le _)
 rw [Nat.add_zero] at ht
 have hr:Q1g (s.extract 6 s.size) 0 254 (s.size+1) 0=Q15 (s.extract 6 s.size) 0 254:=Qhh _ _ _ _ _ _ (by omega) (by omega)
 rw [hr] at ht
 have hs:Q1g s 6 254 (s.size+1) 6=Q15 s 6 254:=rfl
 rw [hs] at ht
 obtain ⟨hf0,hf1,hf2,hf3⟩:=Q9U (s.extract 6 s.size) 0
 unfold Qav Q09
 generalize Q15 s 6 254=r at ht ⊢
 generalize Q15 (s.extract 6 s.size) 0 254=r' at ht hf0 hf1 hf2 hf3
 rcases ht with ⟨h1,h2⟩ | ⟨h1,h2,h3,h4,h5,h7,h8,h9⟩
 ·have hp:r'.pointed=false:=by
   cases hc:r'.pointed with
   | false=>rfl
   | true=>have:=hf2 hc; omega
  rw [Q5V _ _ _ hp h2] at hf3
  simp only at hf3
  rw [hf3]
  simp only
  rw [Bool.eq_false_iff]
  intro h
  simp only [Bool.and_eq_true,beq_iff_eq,Bool.not_eq_true'] at h
  exact h1 ⟨h.1.1,h.1.2⟩
 ·rw [Q6Y _ _ _ h4 h3] at hf3
  simp only at hf3
  rw [hf3]
  simp only
  rw [h1,h2,h9,Bool.eq_iff_iff]
  simp only [Bool.and_eq_true,beq_iff_eq,Bool.not_eq_true',decide_eq_true_eq]
  constructor
  ·rintro ⟨_,h⟩
   have e:r'.next.toNat=(s.extract 6 s.size).size:=by omega
   refine ⟨by omega,?_⟩
   rw [e]
   apply ByteArray.ext
   rw [ByteArray.data_extract]
   exact Array.extract_eq_self_of_le (Nat.le_refl _)
  ·rintro ⟨h,_⟩
   exact ⟨⟨trivial,trivial⟩,by omega⟩
theorem Qhl (s:ByteArray) (h6:s.size < 6):Qav s=false:=by
 unfold Qav
 have:Q15 s 6 254=Run.bad 2:=by unfold Q15; rw [Q1g,if_pos (by omega)]
 rw [this]; rfl
end Go.Proofs.YtdhobdmhnocbgabGreatDoor.Zr
