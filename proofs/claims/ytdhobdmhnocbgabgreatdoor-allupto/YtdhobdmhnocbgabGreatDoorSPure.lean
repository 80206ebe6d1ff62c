import Derived.Below
namespace Go.Proofs.YtdhobdmhnocbgabGreatDoor.Zr
def bt (b:ByteArray) (i:Nat):Nat:=(b.data.getD i 0).toNat
theorem Q20 (b:ByteArray) (i:Nat):bt b i < 256:=by unfold bt; exact UInt8.toNat_lt _
theorem Q10 (b:ByteArray) (i:Nat) (h:i < b.size):b[i].toNat=bt b i:=by
 show (b.data[i]).toNat=(b.data.getD i 0).toNat
 simp [Array.getD,h]
structure Run where
 labels:ByteArray
 next:Int
 pointed:Bool
 to:Int
 fail:Int
def Run.bad (e:Int):Run:=⟨⟨#[]⟩,0,false,0,e⟩
def ptr (b:ByteArray) (start k:Nat):Run :=
 if bt b k < 192 then Run.bad 3
 else if b.size≤k+1 then Run.bad 2
 else if start≤256 * (bt b k - 192)+bt b (k+1) then Run.bad 3
 else ⟨b.extract start k,(k:Int)+2,true,((256 * (bt b k - 192)+bt b (k+1):Nat):Int),0⟩
def Q1g (b:ByteArray) (start:Nat) (room:Int):Nat→Nat→Run
 | 0,_=>Run.bad 2
 | f+1,k =>
  if b.size≤k then Run.bad 2
  else if bt b k=0 then ⟨b.extract start k,(k:Int)+1,false,0,0⟩
  else if 63 < bt b k then ptr b start k
  else if b.size < k+1+bt b k then Run.bad 2
  else if room < ((k+1+bt b k:Nat):Int) - start then Run.bad 3
  else Q1g b start room f (k+1+bt b k)
def Q15 (b:ByteArray) (start:Nat) (room:Int):Run:=Q1g b start room (b.size+1) start
theorem Qhh (b:ByteArray) (start:Nat) (room:Int):∀ (f g k:Nat),b.size < k+f→b.size < k+g→Q1g b start room f k=Q1g b start room g k:=by
 intro f
 induction f with
 | zero=>intro g k h1 h2; cases g with
  | zero=>rfl
  | succ g=>simp [Q1g]; intro h; omega
 | succ f ih=>intro g k h1 h2; cases g with
  | zero=>simp [Q1g]; intro h; omega
  | succ g =>
   simp only [Q1g]
   rw [ih g (k+1+bt b k) (by omega) (by omega)]
def nm (b:ByteArray):Nat→Nat→Nat→Nat→Except Int (ByteArray × Nat)
 | 0,_,_,_=>.error 2
 | f+1,k,run,front =>
  if b.size≤k then .error 2
  else if bt b k=0 then .ok (⟨#[0]⟩,1)
  else if 63 < bt b k then
   if bt b k < 192 then .error 3
   else if b.size≤k+1 then .error 2
   else if run≤256 * (bt b k - 192)+bt b (k+1) then .error 3
   else match nm b f (256 * (bt b k - 192)+bt b (k+1)) (256 * (bt b k - 192)+bt b (k+1)) front with
    | .ok (s,_)=>.ok (s,2)
    | .error e=>.error e
  else if b.size < k+1+bt b k then .error 2
  else if 255 < front+1+bt b k+1 then .error 3
  else match nm b f (k+1+bt b k) run (front+1+bt b k) with
   | .ok (s,t)=>.ok (b.extract k (k+1+bt b k)++s,1+bt b k+t)
   | .error e=>.error e
def Q3c (b:ByteArray) (k run:Nat):Nat:=run * (b.size+2)+(b.size+2 - k)
theorem Q4d (b:ByteArray) (k n run:Nat) (h:k < b.size):Q3c b (k+1+n) run < Q3c b k run:=by
 unfold Q3c; omega
theorem Q5l (b:ByteArray) (k run to:Nat) (h:k < b.size) (ht:to < run):Q3c b to to < Q3c b k run:=by
 unfold Q3c
 obtain ⟨d,rfl⟩:∃ d,run=to+1+d:=⟨run - to - 1,by omega⟩
 rw [Nat.add_mul,Nat.add_mul]
 have:=Nat.zero_le (d * (b.size+2))
 omega
theorem QfO (b:ByteArray):∀ (f g k run front:Nat),Q3c b k run < f→Q3c b k run < g→nm b f k run front=nm b g k run front:=by
 intro f
 induction f with
 | zero=>intro g k run front h; omega
 | succ f ih=>intro g k run front h1 h2; cases g with
  | zero=>omega
  | succ g =>
   simp only [nm]
   by_cases hk:b.size≤k
   ·simp [hk]
   ·simp only [hk,if_false]
    have e1:=ih g (k+1+bt b k) run (front+1+bt b k) (by have:=Q4d b k (bt b k) run (by omega); omega) (by have:=Q4d b k (bt b k) run (by omega); omega)
    rw [e1]
    by_cases hr:run≤256 * (bt b k - 192)+bt b (k+1)
    ·simp [hr]
    ·have e2:=ih g (256 * (bt b k - 192)+bt b (k+1)) (256 * (bt b k - 192)+bt b (k+1)) front (by have:=Q5l b k run (256 * (bt b k - 192)+bt b (k+1)) (by omega) (by omega); omega) (by have:=Q5l b k run (256 * (bt b k - 192)+bt b (k+1)) (by omega) (by omega); omega)
     rw [e2]
def Q3l (b:ByteArray) (k run front:Nat):Except Int (ByteArray × Nat):=nm b (Q3c b k run+1) k run front
theorem Q2B (b:ByteArray) (k run front:Nat):Q3l b k run front =
  if b.size≤k then .error 2
  else if bt b k=0 then .ok (⟨#[0]⟩,1)
  else if 63 < bt b k then
   if bt b k < 192 then .error 3
   else if b.size≤k+1 then .error 2
   else if run≤256 * (bt b k - 192)+bt b (k+1) then .error 3
   else match Q3l b (256 * (bt b k - 192)+bt b (k+1)) (256 * (bt b k - 192)+bt b (k+1)) front with
    | .ok (s,_)=>.ok (s,2)
    | .error e=>.error e
  else if b.size < k+1+bt b k then .error 2
  else if 255 < front+1+bt b k+1 then .error 3
  else match Q3l b (k+1+bt b k) run (front+1+bt b k) with
   | .ok (s,t)=>.ok (b.extract k (k+1+bt b k)++s,1+bt b k+t)
   | .error e=>.error e:=by
 unfold Q3l
 conv=>lhs; rw [nm]
 by_cases hk:b.size≤k
 ·simp [hk]
 ·simp only [hk,if_false]
  rw [QfO b (Q3c b k run) (Q3c b (k+1+bt b k) run+1) (k+1+bt b k) run (front+1+bt b k) (Q4d b k (bt b k) run (by omega)) (by omega)]
  by_cases hr:run≤256 * (bt b k - 192)+bt b (k+1)
  ·simp [hr]
  ·rw [QfO b (Q3c b k run) (Q3c b (256 * (bt b k - 192)+bt b (k+1)) (256 * (bt b k - 192)+bt b (k+1))+1) _ _ front (Q5l b k run _ (by omega) (by omega)) (by omega)]
def num (b:ByteArray) (i:Nat):Nat→Nat
 | 0=>0
 | k+1=>256 * num b i k+bt b (i+k)
theorem QeH (b:ByteArray) (i k:Nat):num b i k < 256 ^ k:=by
 induction k with
 | zero=>simp [num]
 | succ k ih=>have:=Q20 b (i+k); simp only [num,Nat.pow_succ]; omega
theorem Q6A (b:ByteArray) (i k:Nat) (h:k≤4):num b i k < 4294967296:=by
 have h1:=QeH b i k
 have h2:256 ^ k≤256 ^ 4:=Nat.pow_le_pow_right (by omega) h
 omega
theorem Q0n (b:ByteArray) (i:Nat):num b i 2 < 65536:=QeH b i 2
theorem Q6Z (b:ByteArray) (i n j:Nat) (h:j < n) (hn:i+n≤b.size):bt (b.extract i (i+n)) j=bt b (i+j):=by
 have h1:j < (b.extract i (i+n)).size:=by simp [ByteArray.size_extract]; omega
 rw [←Q10 _ _ h1,←Q10 b (i+j) (by omega)]
 simp [ByteArray.getElem_extract]
theorem Qd9 (b:ByteArray) (i n:Nat) (hn:i+n≤b.size):∀ k,k≤n→num (b.extract i (i+n)) 0 k=num b i k:=by
 intro k
 induction k with
 | zero=>intro _; rfl
 | succ k ih =>
  intro hk
  simp only [num]
  rw [ih (by omega),Nat.zero_add,Q6Z b i n k (by omega) hn]
end Go.Proofs.YtdhobdmhnocbgabGreatDoor.Zr
