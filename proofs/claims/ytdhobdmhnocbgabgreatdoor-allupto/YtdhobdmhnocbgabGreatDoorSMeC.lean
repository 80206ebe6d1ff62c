import Derived.Test.YtdhobdmhnocbgabGreatDoorSMsgs
import Derived.Test.YtdhobdmhnocbgabGreatDoorSItoa
namespace Go.Proofs.YtdhobdmhnocbgabGreatDoor
open Zr
structure Ev where
 kind:Int
 node:ByteArray
 inc:Int
 addr:ByteArray
 port:Int
 text:ByteArray
 alias:ByteArray
instance:Inhabited Ev:=⟨⟨0,⟨#[]⟩,0,⟨#[]⟩,0,⟨#[]⟩,⟨#[]⟩⟩⟩
def ltS (x y:ByteArray):Bool:=Go.Op.bytesLess x.toList y.toList
def Q89 (c:Nat):Prop:=(97≤c∧c≤122)∨(48≤c∧c≤57)∨c=45
def Q2y (s:ByteArray):Prop:=(∀ i,i < s.size→Q89 (bt s i))∧1≤s.size∧s.size≤15
def Q5m (e:Ev):Prop:=(e.alias=⟨#[]⟩∨Q2y e.alias)∧(e.addr.size=4∨e.addr.size=16)∧0≤e.port∧e.port≤65535∧e.text.size≤60
def Q2k (e:Ev):Prop:=Q2y e.node∧0≤e.inc∧e.inc≤2147483647∧(e.kind=2∨(e.kind=1∧Q5m e))
def Q16 (a b:Ev):Prop :=
 if a.inc≠b.inc then b.inc < a.inc else if a.kind≠b.kind then a.kind=2 else if a.kind=2 then False else
 if a.addr≠b.addr then ltS b.addr a.addr=true else if a.port≠b.port then b.port < a.port else if a.text≠b.text then ltS b.text a.text=true else ltS b.alias a.alias=true
def Q0s (l:List Ev) (i:Nat):Ev:=l[i]?.getD default
def Q4S (l:List Ev) (i k:Nat):Prop:=Q2k (Q0s l k)∧(Q0s l k).node=(Q0s l i).node∧(Q16 (Q0s l k) (Q0s l i)∨(¬ Q16 (Q0s l i) (Q0s l k)∧k < i))
def Q37 (l:List Ev) (i:Nat):Prop:=Q2k (Q0s l i)∧∀ k,k < l.length→¬ Q4S l i k
open Classical in
noncomputable def Q3q (l:List Ev):Nat→List Ev
 | 0=>[]
 | i+1=>Q3q l i++(if Q37 l i∧(Q0s l i).kind=1 then [Q0s l i] else [])
def Q1H (all:List Ev) (last:ByteArray):Nat→Option Nat
 | 0=>none
 | i+1 =>
  if ltS last (Q0s all i).node=true∧(∀ b,Q1H all last i=some b→ltS (Q0s all i).node (Q0s all b).node=true) then some i else Q1H all last i
def Q7b (all:List Ev) (s:List Ev × ByteArray):List Ev × ByteArray :=
 match Q1H all s.2 all.length with
 | none=>s
 | some b=>(s.1++[Q0s all b],(Q0s all b).node)
def Q5w (all:List Ev):Nat→List Ev × ByteArray
 | 0=>([],⟨#[]⟩)
 | k+1=>Q7b all (Q5w all k)
noncomputable def upP (l:List Ev):List Ev:=(Q5w (Q3q l l.length) (Q3q l l.length).length).1
open Classical in
noncomputable def Q2S (l:List Ev):Nat→Int
 | 0=>0
 | i+1=>if Q2k (Q0s l i)∧Q2S l i < (Q0s l i).inc then (Q0s l i).inc else Q2S l i
def Qm:ByteArray:=⟨#[3,115,118,99,4,109,101,115,104,0]⟩
def Q0C:ByteArray:=⟨#[2,110,115,3,115,118,99,4,109,101,115,104,0]⟩
def Q8k:ByteArray:=⟨#[5,97,100,109,105,110,3,115,118,99,4,109,101,115,104,0]⟩
def Q32:ByteArray:=⟨#[5,95,110,111,100,101,4,95,116,99,112,3,115,118,99,4,109,101,115,104,0]⟩
def one (n:Nat):ByteArray:=⟨#[UInt8.ofNat n]⟩
def Qj (s:ByteArray):ByteArray:=one s.size++s++Qm
def Q03 (name:ByteArray) (t:Int) (data:ByteArray):RI:=⟨name,t,1,30,data⟩
def Q3J (up:List Ev) (a:ByteArray):Nat→ByteArray
 | 0=>⟨#[]⟩
 | i+1=>if (Q0s up (up.length - 1 - i)).alias=a then (Q0s up (up.length - 1 - i)).node else Q3J up a i
def Q2Q (up:List Ev) (a:ByteArray):ByteArray:=if (∃ i,i < up.length∧(Q0s up i).node=a) then ⟨#[]⟩ else Q3J up a up.length
def Q0D (up:List Ev) (last:ByteArray):Nat→ByteArray
 | 0=>⟨#[]⟩
 | i+1 =>
  if ltS last (Q0s up i).alias=true∧(Q0D up last i=⟨#[]⟩∨ltS (Q0s up i).alias (Q0D up last i)=true) then (Q0s up i).alias else Q0D up last i
def Q38 (up:List Ev) (s:List RI × ByteArray):List RI × ByteArray :=
 if Q0D up s.2 up.length=⟨#[]⟩ then s
 else (if Q2Q up (Q0D up s.2 up.length)=⟨#[]⟩ then s.1 else s.1++[Q03 (Qj (Q0D up s.2 up.length)) 5 (Qj (Q2Q up (Q0D up s.2 up.length)))],Q0D up s.2 up.length)
def Q1Z (up:List Ev):Nat→List RI × ByteArray
 | 0=>([],⟨#[]⟩)
 | k+1=>Q38 up (Q1Z up k)
def Q5Q (n:Nat):ByteArray:=Q0C++Q8k++q4 n++q4 3600++q4 600++q4 86400++q4 30
def Q0y (e:Ev):List RI:=Q03 (Qj e.node) (if e.addr.size=16 then 28 else 1) e.addr :: (if e.text=⟨#[]⟩ then [] else [Q03 (Qj e.node) 16 (one e.text.size++e.text)])
def Q1o (e:Ev):RI:=Q03 Q32 33 (q4 0++wd e.port.toNat++Qj e.node)
noncomputable def Q0J (l:List Ev):List RI :=
 [Q03 Qm 6 (Q5Q (Q2S l l.length).toNat),Q03 Qm 2 Q0C]++(upP l).flatMap Q0y++(Q1Z (upP l) (upP l).length).1++(upP l).map Q1o
def evC (l:List Ev):List Go.Value:=l.flatMap fun x=>[.int .i64 x.kind,.string x.node,.int .i64 x.inc,.string x.addr,.int .i64 x.port,.string x.text,.string x.alias]
theorem Qbl:∀ x:List UInt8,Go.Op.bytesLess x x=false
 | []=>rfl
 | a :: x=>by
  simp only [Go.Op.bytesLess,Qbl x,Bool.and_false,Bool.or_false]
  exact decide_eq_false (UInt8.lt_irrefl a)
theorem QcP:∀ {x y z:List UInt8},Go.Op.bytesLess x y=true→Go.Op.bytesLess y z=true→Go.Op.bytesLess x z=true
 | _,[],_,h,_=>by simp [Go.Op.bytesLess] at h
 | _,_ :: _,[],_,h=>by simp [Go.Op.bytesLess] at h
 | [],_ :: _,_ :: _,_,_=>rfl
 | a :: x,b :: y,c :: z,h1,h2=>by
  simp only [Go.Op.bytesLess,Bool.or_eq_true,Bool.and_eq_true,decide_eq_true_eq,beq_iff_eq] at h1 h2 ⊢
  rcases h1 with h1 | ⟨rfl,h1⟩
  ·rcases h2 with h2 | ⟨rfl,_⟩
   ·exact .inl (UInt8.lt_trans h1 h2)
   ·exact .inl h1
  ·rcases h2 with h2 | ⟨rfl,h2⟩
   ·exact .inl h2
   ·exact .inr ⟨rfl,QcP h1 h2⟩
theorem QcW:∀ {x y:List UInt8},Go.Op.bytesLess x y=false→Go.Op.bytesLess y x=false→x=y
 | [],[],_,_=>rfl
 | [],_ :: _,h,_=>by simp [Go.Op.bytesLess] at h
 | _ :: _,[],_,h=>by simp [Go.Op.bytesLess] at h
 | a :: x,b :: y,h1,h2=>by
  simp only [Go.Op.bytesLess,Bool.or_eq_false_iff,Bool.and_eq_false_iff,decide_eq_false_iff_not,beq_eq_false_iff_ne] at h1 h2
  have e:a=b:=UInt8.le_antisymm (UInt8.not_lt.1 h2.1) (UInt8.not_lt.1 h1.1)
  subst e
  rcases h1.2 with h | h
  ·exact absurd rfl h
  ·rcases h2.2 with k | k
   ·exact absurd rfl k
   ·rw [QcW h k]
theorem Q1f (x:ByteArray):ltS x x=false:=Qbl _
theorem Q1Q {x y z:ByteArray} (h1:ltS x y=true) (h2:ltS y z=true):ltS x z=true:=QcP h1 h2
theorem Q1R {x y:ByteArray} (h1:ltS x y=false) (h2:ltS y x=false):x=y:=by
 have e:=QcW h1 h2
 have h:(x.toList == y.toList)=true:=by rw [e]; exact beq_self_eq_true _
 rw [Q1A] at h
 exact of_decide_eq_true h
theorem Q4j {x y:ByteArray} (h:ltS x y=true):ltS y x=false:=by
 cases e:ltS y x with
 | false=>rfl
 | true=>have:=Q1Q h e; rw [Q1f] at this; cases this
theorem Q4B {x y:ByteArray} (h:ltS x y=true):x≠y:=fun e=>by subst e; rw [Q1f] at h; cases h
theorem QfI (x:ByteArray):ltS x ⟨#[]⟩=false:=by
 unfold ltS
 rw [ByteArray.toList_eq ⟨#[]⟩]
 cases x.toList <;> rfl
theorem Qfy {x:ByteArray}:ltS ⟨#[]⟩ x=true↔x≠⟨#[]⟩:=by
 constructor
 ·exact fun h e=>Q4B h e.symm
 ·intro h
  cases e:ltS ⟨#[]⟩ x with
  | true=>rfl
  | false=>exact absurd (Q1R e (QfI x)).symm h
theorem Q6Y {l:List Ev} {i:Nat} (h:i < l.length):Q0s l i∈l:=by
 unfold Q0s
 rw [List.getElem?_eq_getElem h]
 exact List.getElem_mem h
theorem Q64 {l:List Ev} {e:Ev} (h:e∈l):∃ i,i < l.length∧Q0s l i=e:=by
 obtain ⟨i,hi,he⟩:=List.mem_iff_getElem.1 h
 refine ⟨i,hi,?_⟩
 unfold Q0s
 rw [List.getElem?_eq_getElem hi]
 exact he
theorem Q4b {l:List Ev} {i:Nat} (h:i < l.length):Q0s l i=l[i]:=by
 unfold Q0s
 rw [List.getElem?_eq_getElem h]
 rfl
theorem Q8a {x y z:ByteArray} (h1:ltS y x=false) (h2:ltS y z=true):ltS x z=true:=by
 cases e:ltS x y with
 | true=>exact Q1Q e h2
 | false=>rw [Q1R e h1]; exact h2
theorem Q8y {all:List Ev} {last:ByteArray}:∀ n,Q1H all last n=none→∀ i,i < n→ltS last (Q0s all i).node=false
 | 0,_,i,h=>by omega
 | n+1,h,i,hi=>by
  unfold Q1H at h
  split at h
  ·cases h
  ·next hc =>
   rcases Nat.lt_or_ge i n with c | c
   ·exact Q8y n h i c
   ·have:i=n:=by omega
    subst this
    cases e:ltS last (Q0s all i).node with
    | false=>rfl
    | true=>exact absurd ⟨e,fun b hb=>by rw [h] at hb; cases hb⟩ hc
theorem Q55 {all:List Ev} {last:ByteArray}:∀ n b,Q1H all last n=some b→b < n∧ltS last (Q0s all b).node=true∧∀ i,i < n→ltS last (Q0s all i).node=true→ltS (Q0s all i).node (Q0s all b).node=false
 | 0,b,h=>by simp [Q1H] at h
 | n+1,b,h=>by
  unfold Q1H at h
  split at h
  ·next hc =>
   cases h
   refine ⟨by omega,hc.1,fun i hi hl=>?_⟩
   rcases Nat.lt_or_ge i n with c | c
   ·cases eb:Q1H all last n with
    | none=>rw [Q8y n eb i c] at hl; cases hl
    | some b =>
     obtain ⟨_,_,h3⟩:=Q55 n b eb
     cases e:ltS (Q0s all i).node (Q0s all n).node with
     | false=>rfl
     | true=>have:=Q1Q e (hc.2 b eb); rw [h3 i c hl] at this; cases this
   ·have:i=n:=by omega
    subst this
    exact Q1f _
  ·next hc =>
   obtain ⟨h1,h2,h3⟩:=Q55 n b h
   refine ⟨by omega,h2,fun i hi hl=>?_⟩
   rcases Nat.lt_or_ge i n with c | c
   ·exact h3 i c hl
   ·have:i=n:=by omega
    subst this
    cases e:ltS (Q0s all i).node (Q0s all b).node with
    | false=>rfl
    | true=>exact absurd ⟨hl,fun b' hb'=>by rw [h] at hb'; cases hb'; exact e⟩ hc
def Q3P (l:List Ev):Prop:=l.Pairwise fun a b=>ltS a.node b.node=true
def Q5O (all:List Ev) (last:ByteArray):Nat:=all.countP fun e=>ltS last e.node
theorem Qak {p q:Ev→Bool}:∀ {l:List Ev},(∀ e,e∈l→p e=true→q e=true)→(∃ e,e∈l∧q e=true∧p e=false)→l.countP p < l.countP q
 | [],_,h=>by obtain ⟨e,he,_⟩:=h; simp at he
 | x :: l,h1,h2=>by
  have hle:l.countP p≤l.countP q:=List.countP_mono_left fun e he hp=>h1 e (List.mem_cons_of_mem _ he) hp
  obtain ⟨e,he,hq,hp⟩:=h2
  rcases List.mem_cons.1 he with rfl | he
  ·rw [List.countP_cons_of_neg (by rw [hp]; simp),List.countP_cons_of_pos hq]
   omega
  ·have ih:=Qak (fun e he=>h1 e (List.mem_cons_of_mem _ he)) ⟨e,he,hq,hp⟩
   cases ep:p x with
   | true=>rw [List.countP_cons_of_pos ep,List.countP_cons_of_pos (h1 x List.mem_cons_self ep)]; omega
   | false =>
    rw [List.countP_cons_of_neg (by rw [ep]; simp)]
    have:l.countP q≤(x :: l).countP q:=by rw [List.countP_cons]; omega
    omega
structure Ql2 (all:List Ev) (k:Nat) (s:List Ev × ByteArray):Prop where
 rising:Q3P s.1
 low:∀ e,e∈s.1→ltS s.2 e.node=false
 sub:∀ e,e∈s.1→e∈all
 got:∀ e,e∈all→ltS s.2 e.node=false→e∈s.1
 less:Q5O all s.2≤all.length - k
theorem QiI {all:List Ev} (hd:∀ a b,a∈all→b∈all→a.node=b.node→a=b) (hn:∀ e,e∈all→e.node≠⟨#[]⟩):∀ k,Ql2 all k (Q5w all k)
 | 0=>⟨List.Pairwise.nil,fun e he=>by simp [Q5w] at he,fun e he=>by simp [Q5w] at he,fun e he hl=>by
   have:=Qfy.2 (hn e he)
   rw [show (Q5w all 0).2=⟨#[]⟩ from rfl] at hl
   rw [hl] at this
   exact Bool.noConfusion this,(by unfold Q5O; exact List.countP_le_length)⟩
 | k+1=>by
  have ih:=QiI hd hn k
  show Ql2 all (k+1) (Q7b all (Q5w all k))
  generalize Q5w all k=s at *
  obtain ⟨out,last⟩:=s
  unfold Q7b
  cases eb:Q1H all last all.length with
  | none =>
   refine ⟨ih.rising,ih.low,ih.sub,ih.got,?_⟩
   have h0:Q5O all last=0:=by
    unfold Q5O
    rw [List.countP_eq_zero]
    intro e he
    obtain ⟨i,hi,rfl⟩:=Q64 he
    rw [Q8y _ eb i hi]
    simp
   show Q5O all last≤_
   rw [h0]
   exact Nat.zero_le _
  | some b =>
   obtain ⟨hb,hl,hm⟩:=Q55 _ _ eb
   have hbm:=Q6Y hb
   have hlow:∀ e,e∈out→ltS e.node (Q0s all b).node=true:=fun e he=>Q8a (ih.low e he) hl
   refine ⟨?_,?_,?_,?_,?_⟩
   ·show Q3P (out++[Q0s all b])
    refine List.pairwise_append.2 ⟨ih.rising,List.pairwise_singleton _ _,fun x hx y hy=>?_⟩
    rw [List.mem_singleton] at hy
    subst hy
    exact hlow x hx
   ·intro e he
    rcases List.mem_append.1 he with he | he
    ·exact Q4j (hlow e he)
    ·rw [List.mem_singleton] at he
     subst he
     exact Q1f _
   ·intro e he
    rcases List.mem_append.1 he with he | he
    ·exact ih.sub e he
    ·rw [List.mem_singleton] at he
     subst he
     exact hbm
   ·intro e he hle
    show e∈out++[Q0s all b]
    cases el:ltS last e.node with
    | false=>exact List.mem_append_left _ (ih.got e he el)
    | true =>
     obtain ⟨i,hi,rfl⟩:=Q64 he
     have e1:=hm i hi el
     have e2:(Q0s all b).node=(Q0s all i).node:=Q1R hle e1
     rw [hd _ _ he hbm e2.symm]
     simp
   ·show Q5O all (Q0s all b).node≤_
    have hc:Q5O all (Q0s all b).node < Q5O all last:=by
     refine Qak (fun e _ h=>Q1Q hl h) ⟨_,hbm,hl,Q1f _⟩
    have:=ih.less
    show Q5O all (Q0s all b).node≤all.length - (k+1)
    have h2:Q5O all last≤all.length - k:=this
    omega
theorem QlE {all:List Ev} (hd:∀ a b,a∈all→b∈all→a.node=b.node→a=b) (hn:∀ e,e∈all→e.node≠⟨#[]⟩):Q3P (Q5w all all.length).1∧∀ e,e∈(Q5w all all.length).1↔e∈all:=by
 have h:=QiI hd hn all.length
 refine ⟨h.rising,fun e=>⟨h.sub e,fun he=>h.got e he ?_⟩⟩
 have h0:Q5O all (Q5w all all.length).2=0:=by have:=h.less; omega
 unfold Q5O at h0
 rw [List.countP_eq_zero] at h0
 simpa using h0 e he
theorem Qbs:∀ {a b:List Ev},Q3P a→Q3P b→(∀ e,e∈a↔e∈b)→a=b
 | [],[],_,_,_=>rfl
 | [],y :: b,_,_,h=>by have:=(h y).2 List.mem_cons_self; simp at this
 | x :: a,[],_,_,h=>by have:=(h x).1 List.mem_cons_self; simp at this
 | x :: a,y :: b,ha,hb,h=>by
  obtain ⟨ha1,ha2⟩:=List.pairwise_cons.1 ha
  obtain ⟨hb1,hb2⟩:=List.pairwise_cons.1 hb
  have e:x=y:=by
   rcases List.mem_cons.1 ((h x).1 List.mem_cons_self) with e | hx
   ·exact e
   ·rcases List.mem_cons.1 ((h y).2 List.mem_cons_self) with e | hy
    ·exact e.symm
    ·have:=Q1Q (hb1 x hx) (ha1 y hy)
     rw [Q1f] at this
     cases this
  subst e
  rw [Qbs ha2 hb2 fun e=>⟨fun he=>?_,fun he=>?_⟩]
  ·rcases List.mem_cons.1 ((h e).1 (List.mem_cons_of_mem _ he)) with rfl | h'
   ·exact absurd rfl (Q4B (ha1 _ he))
   ·exact h'
  ·rcases List.mem_cons.1 ((h e).2 (List.mem_cons_of_mem _ he)) with rfl | h'
   ·exact absurd rfl (Q4B (hb1 _ he))
   ·exact h'
theorem Q7q {l:List Ev}:∀ {n:Nat} {e:Ev},e∈Q3q l n↔∃ i,i < n∧Q37 l i∧(Q0s l i).kind=1∧e=Q0s l i
 | 0,e=>by simp [Q3q]
 | n+1,e=>by
  unfold Q3q
  rw [List.mem_append,Q7q]
  constructor
  ·rintro (⟨i,h1,h2⟩ | h)
   ·exact ⟨i,by omega,h2⟩
   ·split at h
    ·next hc =>
     rw [List.mem_singleton] at h
     exact ⟨n,by omega,hc.1,hc.2,h⟩
    ·simp at h
  ·rintro ⟨i,h1,h2,h3,h4⟩
   rcases Nat.lt_or_ge i n with c | c
   ·exact .inl ⟨i,c,h2,h3,h4⟩
   ·have:i=n:=by omega
    subst this
    refine .inr ?_
    rw [if_pos ⟨h2,h3⟩,h4]
    simp
theorem Qee {l:List Ev} {i k:Nat} (hi:Q37 l i) (hk:Q37 l k) (h1:i < l.length) (h2:k < l.length) (hn:(Q0s l i).node=(Q0s l k).node):i=k:=by
 rcases Nat.lt_trichotomy i k with c | c | c
 ·have a1:=hi.2 k h2
  have a2:=hk.2 i h1
  have r1:¬ Q16 (Q0s l k) (Q0s l i):=fun h=>a1 ⟨hk.1,hn.symm,.inl h⟩
  exact absurd ⟨hi.1,hn,.inr ⟨r1,c⟩⟩ a2
 ·exact c
 ·have a1:=hi.2 k h2
  have a2:=hk.2 i h1
  have r1:¬ Q16 (Q0s l i) (Q0s l k):=fun h=>a2 ⟨hi.1,hn,.inl h⟩
  exact absurd ⟨hk.1,hn.symm,.inr ⟨r1,c⟩⟩ a1
theorem QdT {s:ByteArray} (h:Q2y s):s≠⟨#[]⟩:=fun e=>by
 subst e
 exact absurd (show 1≤0 from h.2.1) (by omega)
theorem Q66 (l:List Ev):Q3P (upP l)∧∀ e,e∈upP l↔∃ i,i < l.length∧Q37 l i∧(Q0s l i).kind=1∧e=Q0s l i:=by
 have hd:∀ a b,a∈Q3q l l.length→b∈Q3q l l.length→a.node=b.node→a=b:=fun a b ha hb h=>by
  obtain ⟨i,hi,ci,_,rfl⟩:=Q7q.1 ha
  obtain ⟨k,hk,ck,_,rfl⟩:=Q7q.1 hb
  rw [Qee ci ck hi hk h]
 have hn:∀ e,e∈Q3q l l.length→e.node≠⟨#[]⟩:=fun e he=>by
  obtain ⟨i,_,ci,_,rfl⟩:=Q7q.1 he
  exact QdT ci.1.1
 obtain ⟨h1,h2⟩:=QlE hd hn
 exact ⟨h1,fun e=>(h2 e).trans Q7q⟩
theorem Q7i {up:List Ev} {last:ByteArray}:∀ n,Q0D up last n=⟨#[]⟩→∀ i,i < n→ltS last (Q0s up i).alias=false
 | 0,_,i,h=>by omega
 | n+1,h,i,hi=>by
  unfold Q0D at h
  split at h
  ·next hc=>rw [h,QfI] at hc; exact Bool.noConfusion hc.1
  ·next hc =>
   rcases Nat.lt_or_ge i n with c | c
   ·exact Q7i n h i c
   ·have:i=n:=by omega
    subst this
    cases e:ltS last (Q0s up i).alias with
    | false=>rfl
    | true=>exact absurd ⟨e,.inl h⟩ hc
theorem Q5A {up:List Ev} {last:ByteArray}:∀ n,Q0D up last n≠⟨#[]⟩→(∃ i,i < n∧(Q0s up i).alias=Q0D up last n)∧ltS last (Q0D up last n)=true∧∀ i,i < n→ltS last (Q0s up i).alias=true→ltS (Q0s up i).alias (Q0D up last n)=false
 | 0,h=>absurd rfl h
 | n+1,h=>by
  unfold Q0D at h ⊢
  split at h
  ·next hc =>
   rw [if_pos hc]
   refine ⟨⟨n,by omega,rfl⟩,hc.1,fun i hi hl=>?_⟩
   rcases Nat.lt_or_ge i n with c | c
   ·by_cases e0:Q0D up last n=⟨#[]⟩
    ·rw [Q7i n e0 i c] at hl; exact Bool.noConfusion hl
    ·obtain ⟨_,_,h3⟩:=Q5A n e0
     cases e:ltS (Q0s up i).alias (Q0s up n).alias with
     | false=>rfl
     | true =>
      rcases hc.2 with h' | h'
      ·exact absurd h' e0
      ·have:=Q1Q e h'; rw [h3 i c hl] at this; exact Bool.noConfusion this
   ·have:i=n:=by omega
    subst this
    exact Q1f _
  ·next hc =>
   rw [if_neg hc]
   obtain ⟨⟨j,hj,ej⟩,h2,h3⟩:=Q5A n h
   refine ⟨⟨j,by omega,ej⟩,h2,fun i hi hl=>?_⟩
   rcases Nat.lt_or_ge i n with c | c
   ·exact h3 i c hl
   ·have:i=n:=by omega
    subst this
    cases e:ltS (Q0s up i).alias (Q0D up last i) with
    | false=>rfl
    | true=>exact absurd ⟨hl,.inr e⟩ hc
def Q7J (l:List ByteArray):Prop:=l.Pairwise fun a b=>ltS a b=true
theorem Qa1:∀ {a b:List ByteArray},Q7J a→Q7J b→(∀ e,e∈a↔e∈b)→a=b
 | [],[],_,_,_=>rfl
 | [],y :: b,_,_,h=>by have:=(h y).2 List.mem_cons_self; simp at this
 | x :: a,[],_,_,h=>by have:=(h x).1 List.mem_cons_self; simp at this
 | x :: a,y :: b,ha,hb,h=>by
  obtain ⟨ha1,ha2⟩:=List.pairwise_cons.1 ha
  obtain ⟨hb1,hb2⟩:=List.pairwise_cons.1 hb
  have e:x=y:=by
   rcases List.mem_cons.1 ((h x).1 List.mem_cons_self) with e | hx
   ·exact e
   ·rcases List.mem_cons.1 ((h y).2 List.mem_cons_self) with e | hy
    ·exact e.symm
    ·have:=Q1Q (hb1 x hx) (ha1 y hy)
     rw [Q1f] at this
     cases this
  subst e
  rw [Qa1 ha2 hb2 fun e=>⟨fun he=>?_,fun he=>?_⟩]
  ·rcases List.mem_cons.1 ((h e).1 (List.mem_cons_of_mem _ he)) with rfl | h'
   ·exact absurd rfl (Q4B (ha1 _ he))
   ·exact h'
  ·rcases List.mem_cons.1 ((h e).2 (List.mem_cons_of_mem _ he)) with rfl | h'
   ·exact absurd rfl (Q4B (hb1 _ he))
   ·exact h'
def Qc4 (up:List Ev) (a:ByteArray):Option RI:=if Q2Q up a=⟨#[]⟩ then none else some (Q03 (Qj a) 5 (Qj (Q2Q up a)))
def Q4P (up:List Ev) (last:ByteArray):Nat:=up.countP fun e=>ltS last e.alias
structure QkX (up:List Ev) (k:Nat) (s:List RI × ByteArray):Prop where
 ex:∃ S:List ByteArray,Q7J S∧(∀ a,a∈S→ltS s.2 a=false)∧(∀ a,a∈S→∃ e,e∈up∧e.alias=a∧a≠⟨#[]⟩)∧(∀ e,e∈up→e.alias≠⟨#[]⟩→ltS s.2 e.alias=false→e.alias∈S)∧s.1=S.filterMap (Qc4 up)
 less:Q4P up s.2≤up.length - k
theorem Qep (up:List Ev):∀ k,QkX up k (Q1Z up k)
 | 0=>⟨⟨[],List.Pairwise.nil,fun a ha=>by simp at ha,fun a ha=>by simp at ha,fun e _ h1 h2=>by
   have:=Qfy.2 h1
   rw [show (Q1Z up 0).2=⟨#[]⟩ from rfl] at h2
   rw [h2] at this
   exact Bool.noConfusion this,rfl⟩,(by unfold Q4P; exact List.countP_le_length)⟩
 | k+1=>by
  have ih:=Qep up k
  show QkX up (k+1) (Q38 up (Q1Z up k))
  generalize Q1Z up k=s at *
  obtain ⟨out,last⟩:=s
  obtain ⟨⟨S,s1,s2,s3,s4,s5⟩,hless⟩:=ih
  simp only at s2 s4 s5 hless
  unfold Q38
  simp only
  by_cases e0:Q0D up last up.length=⟨#[]⟩
  ·rw [if_pos e0]
   refine ⟨⟨S,s1,s2,s3,s4,s5⟩,?_⟩
   have h0:Q4P up last=0:=by
    unfold Q4P
    rw [List.countP_eq_zero]
    intro e he
    obtain ⟨i,hi,rfl⟩:=Q64 he
    rw [Q7i _ e0 i hi]
    simp
   show Q4P up last≤_
   rw [h0]
   exact Nat.zero_le _
  ·rw [if_neg e0]
   obtain ⟨⟨i,hi,ei⟩,hl,hm⟩:=Q5A _ e0
   generalize Q0D up last up.length=a at *
   have hlow:∀ x,x∈S→ltS x a=true:=fun x hx=>Q8a (s2 x hx) hl
   refine ⟨⟨S++[a],?_,?_,?_,?_,?_⟩,?_⟩
   ·refine List.pairwise_append.2 ⟨s1,List.pairwise_singleton _ _,fun x hx y hy=>?_⟩
    rw [List.mem_singleton] at hy
    subst hy
    exact hlow x hx
   ·intro x hx
    rcases List.mem_append.1 hx with hx | hx
    ·exact Q4j (hlow x hx)
    ·rw [List.mem_singleton] at hx
     subst hx
     exact Q1f _
   ·intro x hx
    rcases List.mem_append.1 hx with hx | hx
    ·exact s3 x hx
    ·rw [List.mem_singleton] at hx
     subst hx
     exact ⟨_,Q6Y hi,ei,e0⟩
   ·intro e he h1 h2
    cases el:ltS last e.alias with
    | false=>exact List.mem_append_left _ (s4 e he h1 el)
    | true =>
     obtain ⟨j,hj,rfl⟩:=Q64 he
     have k1:=hm j hj el
     rw [Q1R k1 h2]
     simp
   ·rw [List.filterMap_append,←s5]
    unfold Qc4
    by_cases eb:Q2Q up a=⟨#[]⟩
    ·simp [eb]
    ·simp [eb]
   ·have hc:Q4P up a < Q4P up last:=by
     refine Qak (fun e _ h=>Q1Q hl h) ⟨_,Q6Y hi,?_,?_⟩
     ·rw [ei]; exact hl
     ·rw [ei]; exact Q1f _
    show Q4P up a≤up.length - (k+1)
    omega
theorem QiY (up:List Ev) (S:List ByteArray) (h1:Q7J S) (h2:∀ a,a∈S↔∃ e,e∈up∧e.alias=a∧a≠⟨#[]⟩):(Q1Z up up.length).1=S.filterMap (Qc4 up):=by
 obtain ⟨⟨T,t1,_,t3,t4,t5⟩,hless⟩:=Qep up up.length
 have h0:Q4P up (Q1Z up up.length).2=0:=by omega
 unfold Q4P at h0
 rw [List.countP_eq_zero] at h0
 have e:T=S:=Qa1 t1 h1 fun a=>by
  rw [h2]
  constructor
  ·exact t3 a
  ·rintro ⟨e,he,rfl,hne⟩
   exact t4 e he hne (by simpa using h0 e he)
 rw [t5,e]
section
variable {α:Type} [DecidableEq α]
def Q2G (f:Ev→α) (lt:α→α→Prop) (R:Ev→Ev→Prop) (a b:Ev):Prop:=if f a≠f b then lt (f b) (f a) else R a b
theorem Q6F {f:Ev→α} {lt:α→α→Prop} {R:Ev→Ev→Prop} (hlt:∀ x y z:α,x≠y→y≠z→lt y x→lt z y→x≠z∧lt z x) (hR:∀ a b c,R a b→R b c→R a c) {a b c:Ev} (h1:Q2G f lt R a b) (h2:Q2G f lt R b c):Q2G f lt R a c:=by
 unfold Q2G at *
 by_cases e1:f a=f b
 ·rw [if_neg (by simpa using e1)] at h1
  by_cases e2:f b=f c
  ·rw [if_neg (by simpa using e2)] at h2
   rw [if_neg (by simp [e1,e2])]
   exact hR _ _ _ h1 h2
  ·rw [if_pos e2] at h2
   rw [if_pos (by rw [e1]; exact e2),e1]
   exact h2
 ·rw [if_pos e1] at h1
  by_cases e2:f b=f c
  ·rw [if_pos (by rw [←e2]; exact e1),←e2]
   exact h1
  ·rw [if_pos e2] at h2
   obtain ⟨k1,k2⟩:=hlt _ _ _ e1 e2 h1 h2
   rw [if_pos k1]
   exact k2
theorem Q7K {f:Ev→α} {lt:α→α→Prop} {R:Ev→Ev→Prop} (htot:∀ x y:α,x≠y→lt x y∨lt y x) {a b:Ev} (h1:¬ Q2G f lt R a b) (h2:¬ Q2G f lt R b a):f a=f b∧¬ R a b∧¬ R b a:=by
 unfold Q2G at *
 by_cases e:f a=f b
 ·rw [if_neg (by simpa using e)] at h1
  rw [if_neg (by simp [e])] at h2
  exact ⟨e,h1,h2⟩
 ·rw [if_pos e] at h1
  rw [if_pos (Ne.symm e)] at h2
  rcases htot _ _ e with h | h
  ·exact absurd h h2
  ·exact absurd h h1
theorem Q5h {f:Ev→α} {lt:α→α→Prop} {R:Ev→Ev→Prop} (hR:∀ a,¬ R a a) (a:Ev):¬ Q2G f lt R a a:=by
 unfold Q2G
 rw [if_neg (by simp)]
 exact hR a
end
def Q4e (a b:Ev):Prop:=ltS b.alias a.alias=true
def Q7a:Ev→Ev→Prop:=Q2G Ev.text (fun x y=>ltS x y=true) Q4e
def Q6b:Ev→Ev→Prop:=Q2G Ev.port (fun x y=>x < y) Q7a
def Q47:Ev→Ev→Prop:=Q2G Ev.addr (fun x y=>ltS x y=true) Q6b
def Qes (a b:Ev):Prop:=a.kind≠2∧Q47 a b
def Qa5 (a b:Ev):Prop:=if a.kind≠b.kind then a.kind=2 else Qes a b
def Qgb:Ev→Ev→Prop:=Q2G Ev.inc (fun x y=>x < y) Qa5
theorem Q7f (a b:Ev):Q16 a b↔Qgb a b:=by
 unfold Q16 Qgb Q2G Qa5 Qes Q47 Q2G Q6b Q2G Q7a Q2G Q4e
 by_cases h1:a.inc=b.inc
 ·by_cases h2:a.kind=b.kind
  ·by_cases h3:b.kind=2
   ·simp [h1,h2,h3]
   ·simp [h1,h2,h3]
  ·simp [h1,h2]
 ·simp [h1]
theorem QcN (x y z:ByteArray) (_:x≠y) (_:y≠z) (h1:ltS y x=true) (h2:ltS z y=true):x≠z∧ltS z x=true :=
 have h:=Q1Q h2 h1
 ⟨fun e=>Q4B h e.symm,h⟩
theorem QcG (x y z:Int) (_:x≠y) (_:y≠z) (h1:y < x) (h2:z < y):x≠z∧z < x:=by omega
theorem QiK (x y:ByteArray) (h:x≠y):ltS x y=true∨ltS y x=true:=by
 cases e1:ltS x y with
 | true=>exact .inl rfl
 | false =>
  cases e2:ltS y x with
  | true=>exact .inr rfl
  | false=>exact absurd (Q1R e1 e2) h
theorem Qjs (x y:Int) (h:x≠y):x < y∨y < x:=by omega
theorem QaZ:∀ a b c,Q4e a b→Q4e b c→Q4e a c:=fun _ _ _ h1 h2=>Q1Q h2 h1
theorem Qck:∀ a b c,Q7a a b→Q7a b c→Q7a a c:=fun _ _ _=>Q6F QcN QaZ
theorem QbV:∀ a b c,Q6b a b→Q6b b c→Q6b a c:=fun _ _ _=>Q6F QcG Qck
theorem Qcm:∀ a b c,Q47 a b→Q47 b c→Q47 a c:=fun _ _ _=>Q6F QcN QbV
theorem Qd1 {a b:Ev} (h1:¬ Q16 a b) (h2:¬ Q16 b a):a.inc=b.inc∧(a.kind=b.kind∨(a.kind≠2∧b.kind≠2))∧(a.kind=b.kind→a.kind≠2→a.addr=b.addr∧a.port=b.port∧a.text=b.text∧a.alias=b.alias):=by
 rw [Q7f] at h1 h2
 obtain ⟨e1,k1,k2⟩:=Q7K (f:=Ev.inc) Qjs h1 h2
 unfold Qa5 at k1 k2
 refine ⟨e1,?_,fun ek hk=>?_⟩
 ·by_cases e:a.kind=b.kind
  ·exact .inl e
  ·rw [if_pos e] at k1
   rw [if_pos (Ne.symm e)] at k2
   exact .inr ⟨k1,k2⟩
 ·rw [if_neg (by simpa using ek)] at k1
  rw [if_neg (by simp [ek])] at k2
  have g1:¬ Q47 a b:=fun h=>k1 ⟨hk,h⟩
  have g2:¬ Q47 b a:=fun h=>k2 ⟨by rw [←ek]; exact hk,h⟩
  obtain ⟨e2,g1,g2⟩:=Q7K (f:=Ev.addr) QiK g1 g2
  obtain ⟨e3,g1,g2⟩:=Q7K (f:=Ev.port) Qjs g1 g2
  obtain ⟨e4,g1,g2⟩:=Q7K (f:=Ev.text) QiK g1 g2
  refine ⟨e2,e3,e4,Q1R ?_ ?_⟩
  ·unfold Q4e at g2; simpa using g2
  ·unfold Q4e at g1; simpa using g1
theorem Q9w {up:List Ev} {a:ByteArray}:∀ n i,n≤up.length→up.length - n≤i→i < up.length→(Q0s up i).alias=a→(∀ k,up.length - n≤k→k < i→(Q0s up k).alias≠a)→Q3J up a n=(Q0s up i).node
 | 0,i,_,h1,h2,_,_=>by omega
 | n+1,i,hn,h1,h2,h3,h4=>by
  unfold Q3J
  by_cases c:up.length - 1 - n=i
  ·rw [c,if_pos h3]
  ·rw [if_neg (h4 _ (by omega) (by omega))]
   exact Q9w n i (by omega) (by omega) h2 h3 fun k k1 k2=>h4 k (by omega) k2
structure En where
 key:ByteArray
 ev:Ev
def Q2T (l:List En):Prop:=l.Pairwise fun a b=>ltS b.key a.key=false
theorem Q7P {x y z:ByteArray} (h1:ltS y x=false) (h2:ltS z y=false):ltS z x=false:=by
 cases e:ltS z x with
 | false=>rfl
 | true =>
  cases e2:ltS x y with
  | true=>rw [Q1Q e e2] at h2; cases h2
  | false=>rw [Q1R e2 h1] at e; rw [e] at h2; cases h2
def Q0g:List En→List En→List En
 | [],b=>b
 | x :: a,[]=>x :: a
 | x :: a,y :: b=>if ltS y.key x.key=true then y :: Q0g (x :: a) b else x :: Q0g a (y :: b)
theorem Qgi (a:List En):Q0g a []=a:=by cases a <;> simp [Q0g]
theorem Q44 {x y:En} {a b:List En} (h:ltS y.key x.key=true):Q0g (x :: a) (y :: b)=y :: Q0g (x :: a) b:=by rw [Q0g,if_pos h]
theorem Q4m {x y:En} {a b:List En} (h:ltS y.key x.key=false):Q0g (x :: a) (y :: b)=x :: Q0g a (y :: b):=by rw [Q0g,if_neg (by rw [h]; simp)]
theorem Q6u:∀ {a b:List En} {e:En},e∈Q0g a b↔e∈a∨e∈b
 | [],b,e=>by simp [Q0g]
 | x :: a,[],e=>by simp [Q0g]
 | x :: a,y :: b,e=>by
  cases h:ltS y.key x.key with
  | true =>
   rw [Q44 h,List.mem_cons,Q6u,List.mem_cons (b:=y)]
   constructor
   ·rintro (h | h | h)
    ·exact .inr (.inl h)
    ·exact .inl h
    ·exact .inr (.inr h)
   ·rintro (h | h | h)
    ·exact .inr (.inl h)
    ·exact .inl h
    ·exact .inr (.inr h)
  | false =>
   rw [Q4m h,List.mem_cons,Q6u,List.mem_cons (b:=x) (l:=a)]
   constructor
   ·rintro (h | h | h)
    ·exact .inl (.inl h)
    ·exact .inl (.inr h)
    ·exact .inr h
   ·rintro ((h | h) | h)
    ·exact .inl h
    ·exact .inr (.inl h)
    ·exact .inr (.inr h)
termination_by a b=>a.length+b.length
theorem Q5d:∀ {a b:List En},Q2T a→Q2T b→Q2T (Q0g a b)
 | [],b,_,hb=>by simpa [Q0g] using hb
 | x :: a,[],ha,_=>by simpa [Q0g] using ha
 | x :: a,y :: b,ha,hb=>by
  obtain ⟨ha1,ha2⟩:=List.pairwise_cons.1 ha
  obtain ⟨hb1,hb2⟩:=List.pairwise_cons.1 hb
  cases h:ltS y.key x.key with
  | true =>
   rw [Q44 h]
   refine List.pairwise_cons.2 ⟨fun e he=>?_,Q5d ha hb2⟩
   rcases Q6u.1 he with he | he
   ·rcases List.mem_cons.1 he with rfl | he
    ·exact Q4j h
    ·exact Q7P (Q4j h) (ha1 e he)
   ·exact hb1 e he
  | false =>
   rw [Q4m h]
   refine List.pairwise_cons.2 ⟨fun e he=>?_,Q5d ha2 hb⟩
   rcases Q6u.1 he with he | he
   ·exact ha1 e he
   ·rcases List.mem_cons.1 he with rfl | he
    ·exact h
    ·exact Q7P h (hb1 e he)
termination_by a b=>a.length+b.length
theorem Q4i:∀ a b:List En,(Q0g a b).length=a.length+b.length
 | [],b=>by simp [Q0g]
 | x :: a,[]=>by simp [Q0g]
 | x :: a,y :: b=>by
  cases h:ltS y.key x.key with
  | true=>rw [Q44 h,List.length_cons,Q4i]; simp only [List.length_cons]; omega
  | false=>rw [Q4m h,List.length_cons,Q4i]; simp only [List.length_cons]; omega
termination_by a b=>a.length+b.length
def Q0F (k:ByteArray) (l:List En):List En:=l.filter fun e=>decide (e.key=k)
theorem Qav {k:ByteArray} {l:List En} (h:∀ e,e∈l→e.key≠k):Q0F k l=[]:=by
 unfold Q0F
 rw [List.filter_eq_nil_iff]
 intro e he
 simpa using h e he
theorem Q57 (k:ByteArray):∀ {a b:List En},Q2T a→Q2T b→Q0F k (Q0g a b)=Q0F k a++Q0F k b
 | [],b,_,_=>by simp [Q0g,Q0F]
 | x :: a,[],_,_=>by simp [Q0g,Q0F]
 | x :: a,y :: b,ha,hb=>by
  obtain ⟨ha1,ha2⟩:=List.pairwise_cons.1 ha
  obtain ⟨hb1,hb2⟩:=List.pairwise_cons.1 hb
  cases h:ltS y.key x.key with
  | true =>
   rw [Q44 h]
   by_cases c:y.key=k
   ·have e0:Q0F k (x :: a)=[]:=Qav fun e he ek=>by
     rcases List.mem_cons.1 he with rfl | he
     ·rw [c,←ek] at h; rw [Q1f] at h; cases h
     ·have:=ha1 e he
      rw [ek,←c] at this
      rw [h] at this; cases this
    have e1:Q0F k (y :: Q0g (x :: a) b)=y :: Q0F k (Q0g (x :: a) b):=by unfold Q0F; rw [List.filter_cons_of_pos (by simpa using c)]
    have e2:Q0F k (y :: b)=y :: Q0F k b:=by unfold Q0F; rw [List.filter_cons_of_pos (by simpa using c)]
    rw [e1,e2,Q57 k ha hb2,e0]
    rfl
   ·have e1:Q0F k (y :: Q0g (x :: a) b)=Q0F k (Q0g (x :: a) b):=by unfold Q0F; rw [List.filter_cons_of_neg (by simpa using c)]
    have e2:Q0F k (y :: b)=Q0F k b:=by unfold Q0F; rw [List.filter_cons_of_neg (by simpa using c)]
    rw [e1,e2,Q57 k ha hb2]
  | false =>
   rw [Q4m h]
   by_cases c:x.key=k
   ·have e1:Q0F k (x :: Q0g a (y :: b))=x :: Q0F k (Q0g a (y :: b)):=by unfold Q0F; rw [List.filter_cons_of_pos (by simpa using c)]
    have e2:Q0F k (x :: a)=x :: Q0F k a:=by unfold Q0F; rw [List.filter_cons_of_pos (by simpa using c)]
    rw [e1,e2,Q57 k ha2 hb]
    rfl
   ·have e1:Q0F k (x :: Q0g a (y :: b))=Q0F k (Q0g a (y :: b)):=by unfold Q0F; rw [List.filter_cons_of_neg (by simpa using c)]
    have e2:Q0F k (x :: a)=Q0F k a:=by unfold Q0F; rw [List.filter_cons_of_neg (by simpa using c)]
    rw [e1,e2,Q57 k ha2 hb]
termination_by a b=>a.length+b.length
def Q0f (l:List En):List En :=
 if _h:l.length < 2 then l else Q0g (Q0f (l.take (l.length / 2))) (Q0f (l.drop (l.length / 2)))
termination_by l.length
decreasing_by
 ·rw [List.length_take]; omega
 ·rw [List.length_drop]; omega
theorem Q7H {l:List En} (h:l.length < 2):Q0f l=l:=by rw [Q0f,dif_pos h]
theorem Q6r {l:List En} (h:¬ l.length < 2):Q0f l=Q0g (Q0f (l.take (l.length / 2))) (Q0f (l.drop (l.length / 2))):=by rw [Q0f,dif_neg h]
theorem Q0Y (l:List En):(Q0f l).length=l.length:=by
 by_cases h:l.length < 2
 ·rw [Q7H h]
 ·rw [Q6r h,Q4i,Q0Y,Q0Y,List.length_take,List.length_drop]
  omega
termination_by l.length
decreasing_by
 ·rw [List.length_take]; omega
 ·rw [List.length_drop]; omega
theorem Q2s (l:List En):Q2T (Q0f l):=by
 by_cases h:l.length < 2
 ·rw [Q7H h]
  match l,h with
  | [],_=>exact List.Pairwise.nil
  | [x],_=>exact List.pairwise_singleton _ _
 ·rw [Q6r h]
  exact Q5d (Q2s _) (Q2s _)
termination_by l.length
decreasing_by
 ·rw [List.length_take]; omega
 ·rw [List.length_drop]; omega
theorem Q7I (k:ByteArray) (l:List En):Q0F k (Q0f l)=Q0F k l:=by
 by_cases h:l.length < 2
 ·rw [Q7H h]
 ·rw [Q6r h,Q57 k (Q2s _) (Q2s _),Q7I k (l.take (l.length / 2)),Q7I k (l.drop (l.length / 2))]
  unfold Q0F
  rw [←List.filter_append,List.take_append_drop]
termination_by l.length
decreasing_by
 ·rw [List.length_take]; omega
 ·rw [List.length_drop]; omega
theorem Q45 {l:List En} {e:En}:e∈Q0f l↔e∈l:=by
 have h:∀ L:List En,e∈L↔e∈Q0F e.key L:=fun L=>by unfold Q0F; rw [List.mem_filter]; simp
 rw [h,Q7I,←h]
def Q2Y (a b:Ev):Prop:=if a.kind≠b.kind then a.kind=2 else Q47 a b
def Q19:Ev→Ev→Prop:=Q2G Ev.inc (fun x y=>x < y) Q2Y
theorem QaU:∀ a b c,Q2Y a b→Q2Y b c→Q2Y a c:=by
 intro a b c h1 h2
 unfold Q2Y at *
 by_cases e1:a.kind=b.kind
 ·rw [if_neg (by simpa using e1)] at h1
  by_cases e2:b.kind=c.kind
  ·rw [if_neg (by simpa using e2)] at h2
   rw [if_neg (by simp [e1,e2])]
   exact Qcm _ _ _ h1 h2
  ·rw [if_pos e2] at h2
   rw [if_pos (by rw [e1]; exact e2),e1]
   exact h2
 ·rw [if_pos e1] at h1
  by_cases e2:b.kind=c.kind
  ·rw [if_pos (by rw [←e2]; exact e1)]
   exact h1
  ·rw [if_pos e2] at h2
   exact absurd (h1.trans h2.symm) e1
theorem Qcs {a b c:Ev} (h1:Q19 a b) (h2:Q19 b c):Q19 a c:=Q6F QcG QaU h1 h2
theorem Q5f (a:Ev):¬ Q19 a a:=by
 refine Q5h (fun a=>?_) a
 unfold Q2Y
 rw [if_neg (by simp)]
 exact Q5h (Q5h (Q5h (fun a h=>by unfold Q4e at h; rw [Q1f] at h; cases h))) a
theorem Q5L {a b:Ev} (h:Q16 a b):Q19 a b:=by
 rw [Q7f] at h
 unfold Qgb Q2G at h
 unfold Q19 Q2G
 by_cases e:a.inc=b.inc
 ·rw [if_neg (by simpa using e)] at h ⊢
  unfold Qa5 at h
  unfold Q2Y
  by_cases k:a.kind=b.kind
  ·rw [if_neg (by simpa using k)] at h ⊢
   exact h.2
  ·rw [if_pos k] at h ⊢
   exact h
 ·rw [if_pos e] at h ⊢
  exact h
open Classical in
noncomputable def Q1i (l:List Ev):List Ev:=l.filter fun e=>decide (Q2k e)
def Q1a (l:List Ev):List En:=l.map fun e=>⟨e.node,e⟩
open Classical in
noncomputable def Q1B (c:List Ev) (e:En):List Ev :=
 if h:c=[] then [e.ev]
 else if (c.getLast h).node≠e.key then c++[e.ev]
 else if Q19 e.ev (c.getLast h) then c.dropLast++[e.ev] else c
noncomputable def QaW (l:List En):List Ev:=l.foldl Q1B []
structure QbT (L:List En) (C:List Ev):Prop where
 rising:Q3P C
 sub:∀ c,c∈C→∃ e,e∈L∧e.ev=c
 top:∀ e,e∈L→∃ c,c∈C∧c.node=e.ev.node∧¬ Q19 e.ev c
theorem QiN {L:List En} {e:En} {C:List Ev} (hk:∀ x,x∈L++[e]→x.key=x.ev.node) (hs:Q2T (L++[e])) (h:QbT L C):QbT (L++[e]) (Q1B C e):=by
 have hke:e.key=e.ev.node:=hk e (by simp)
 have hle:∀ x,x∈L→ltS e.ev.node x.ev.node=false:=fun x hx=>by
  have:=(List.pairwise_append.1 hs).2.2 x hx e (by simp)
  rw [hke,hk x (by simp [hx])] at this
  exact this
 unfold Q1B
 by_cases hn:C=[]
 ·rw [dif_pos hn]
  subst hn
  refine ⟨List.pairwise_singleton _ _,fun c hc=>?_,fun x hx=>?_⟩
  ·rw [List.mem_singleton] at hc
   exact ⟨e,by simp,hc.symm⟩
  ·rcases List.mem_append.1 hx with hx | hx
   ·obtain ⟨c,hc,_⟩:=h.top x hx
    simp at hc
   ·rw [List.mem_singleton] at hx
    subst hx
    exact ⟨_,by simp,rfl,Q5f _⟩
 ·rw [dif_neg hn]
  obtain ⟨D,y,rfl⟩:∃ D y,C=D++[y]:=⟨C.dropLast,C.getLast hn,(List.dropLast_concat_getLast hn).symm⟩
  rw [List.getLast_concat,List.dropLast_concat]
  obtain ⟨hD,_,hDy⟩:=List.pairwise_append.1 h.rising
  have hy:∃ x,x∈L∧x.ev=y:=h.sub y (by simp)
  have hye:ltS e.ev.node y.node=false:=by
   obtain ⟨x,hx,rfl⟩:=hy
   exact hle x hx
  by_cases c1:y.node=e.key
  ·rw [if_neg (by simpa using c1)]
   by_cases c2:Q19 e.ev y
   ·rw [if_pos c2]
    refine ⟨List.pairwise_append.2 ⟨hD,List.pairwise_singleton _ _,fun a ha b hb=>?_⟩,fun c hc=>?_,fun x hx=>?_⟩
    ·rw [List.mem_singleton] at hb
     subst hb
     rw [←hke,←c1]
     exact hDy a ha y (by simp)
    ·rcases List.mem_append.1 hc with hc | hc
     ·obtain ⟨x,hx,hxe⟩:=h.sub c (by simp [hc])
      exact ⟨x,by simp [hx],hxe⟩
     ·rw [List.mem_singleton] at hc
      exact ⟨e,by simp,hc.symm⟩
    ·rcases List.mem_append.1 hx with hx | hx
     ·obtain ⟨c,hc,h1,h2⟩:=h.top x hx
      rcases List.mem_append.1 hc with hc | hc
      ·exact ⟨c,by simp [hc],h1,h2⟩
      ·rw [List.mem_singleton] at hc
       subst hc
       exact ⟨e.ev,by simp,by rw [←hke,←c1,h1],fun hb=>h2 (Qcs hb c2)⟩
     ·rw [List.mem_singleton] at hx
      subst hx
      exact ⟨_,by simp,rfl,Q5f _⟩
   ·rw [if_neg c2]
    refine ⟨h.rising,fun c hc=>?_,fun x hx=>?_⟩
    ·obtain ⟨x,hx,hxe⟩:=h.sub c hc
     exact ⟨x,by simp [hx],hxe⟩
    ·rcases List.mem_append.1 hx with hx | hx
     ·exact h.top x hx
     ·rw [List.mem_singleton] at hx
      subst hx
      exact ⟨y,by simp,c1.trans hke,c2⟩
  ·rw [if_pos c1]
   have hlt:ltS y.node e.ev.node=true:=by
    cases q:ltS y.node e.ev.node with
    | true=>rfl
    | false=>exact absurd ((Q1R q hye).trans hke.symm) c1
   refine ⟨List.pairwise_append.2 ⟨h.rising,List.pairwise_singleton _ _,fun a ha b hb=>?_⟩,fun c hc=>?_,fun x hx=>?_⟩
   ·rw [List.mem_singleton] at hb
    subst hb
    rcases List.mem_append.1 ha with ha | ha
    ·exact Q1Q (hDy a ha y (by simp)) hlt
    ·rw [List.mem_singleton] at ha
     subst ha
     exact hlt
   ·rcases List.mem_append.1 hc with hc | hc
    ·obtain ⟨x,hx,hxe⟩:=h.sub c hc
     exact ⟨x,by simp [hx],hxe⟩
    ·rw [List.mem_singleton] at hc
     exact ⟨e,by simp,hc.symm⟩
   ·rcases List.mem_append.1 hx with hx | hx
    ·obtain ⟨c,hc,h1,h2⟩:=h.top x hx
     exact ⟨c,List.mem_append_left _ hc,h1,h2⟩
    ·rw [List.mem_singleton] at hx
     subst hx
     exact ⟨_,by simp,rfl,Q5f _⟩
theorem Qfr {L:List En} (hk:∀ x,x∈L→x.key=x.ev.node) (hs:Q2T L):∀ n,n≤L.length→QbT (L.take n) ((L.take n).foldl Q1B [])
 | 0,_=>⟨by simp [Q3P],fun c hc=>by simp at hc,fun x hx=>by simp at hx⟩
 | n+1,hn=>by
  have ih:=Qfr hk hs n (by omega)
  have e:L.take (n+1)=L.take n++[L[n]]:=List.take_succ_eq_append_getElem (by omega)
  rw [e,List.foldl_append]
  rw [List.foldl_cons,List.foldl_nil]
  have hsub:(L.take n++[L[n]]).Sublist L:=by rw [←e]; exact List.take_sublist _ _
  exact QiN (fun x hx=>hk x (hsub.subset hx)) (hs.sublist hsub) ih
theorem QkD {L:List En} (hk:∀ x,x∈L→x.key=x.ev.node) (hs:Q2T L):QbT L (QaW L):=by
 have h:=Qfr hk hs L.length (Nat.le_refl _)
 rw [List.take_length] at h
 exact h
noncomputable def upM (l:List Ev):List Ev:=(QaW (Q0f (Q1a (Q1i l)))).filter fun e=>decide (e.kind=1)
open Classical in
theorem Q83 {l:List Ev} {e:Ev}:e∈Q1i l↔e∈l∧Q2k e:=by
 unfold Q1i
 rw [List.mem_filter,decide_eq_true_eq]
theorem QhT {l:List Ev} {e:Ev} (h:e∈l):∃ i,i < l.length∧Q0s l i=e∧∀ k,k < i→Q0s l k≠e:=by
 have:∀ n,n≤l.length→(∃ i,i < n∧Q0s l i=e)→∃ i,i < n∧Q0s l i=e∧∀ k,k < i→Q0s l k≠e:=by
  intro n
  induction n with
  | zero=>rintro _ ⟨i,hi,_⟩; omega
  | succ n ih =>
   rintro hn ⟨i,hi,he⟩
   by_cases c:∃ i,i < n∧Q0s l i=e
   ·obtain ⟨j,hj,h1,h2⟩:=ih (by omega) c
    exact ⟨j,by omega,h1,h2⟩
   ·have:i=n:=by
     rcases Nat.lt_or_ge i n with q | q
     ·exact absurd ⟨i,q,he⟩ c
     ·omega
    subst this
    exact ⟨i,by omega,he,fun k hk hek=>c ⟨k,hk,hek⟩⟩
 obtain ⟨i,hi,he⟩:=Q64 h
 exact this l.length (Nat.le_refl _) ⟨i,hi,he⟩
theorem QfN {a b:Ev} (hn:a.node=b.node) (ha:Q2k a) (hb:Q2k b) (hk:a.kind=1) (h1:¬ Q16 a b) (h2:¬ Q16 b a):a=b:=by
 obtain ⟨e1,e2,e3⟩:=Qd1 h1 h2
 have hk2:b.kind=1:=by
  rcases e2 with e2 | e2
  ·rw [←e2,hk]
  ·rcases hb.2.2.2 with h | h
   ·exact absurd h e2.2
   ·exact h.1
 obtain ⟨f1,f2,f3,f4⟩:=e3 (hk.trans hk2.symm) (by rw [hk]; decide)
 obtain ⟨k,n,i,a,p,t,al⟩:=a
 obtain ⟨k',n',i',a',p',t',al'⟩:=b
 simp only at *
 subst hn e1 hk hk2 f1 f2 f3 f4
 rfl
theorem Q5k (l:List Ev):upM l=upP l:=by
 obtain ⟨r1,m1⟩:=Q66 l
 have hk:∀ x,x∈Q0f (Q1a (Q1i l))→x.key=x.ev.node:=fun x hx=>by
  have:=Q45.1 hx
  unfold Q1a at this
  obtain ⟨e,_,rfl⟩:=List.mem_map.1 this
  rfl
 have hc:=QkD hk (Q2s _)
 have hm:∀ e,e∈Q1i l↔∃ x,x∈Q0f (Q1a (Q1i l))∧x.ev=e:=fun e=>by
  constructor
  ·intro h
   exact ⟨⟨e.node,e⟩,Q45.2 (List.mem_map.2 ⟨e,h,rfl⟩),rfl⟩
  ·rintro ⟨x,hx,rfl⟩
   obtain ⟨e,he,rfl⟩:=List.mem_map.1 (Q45.1 hx)
   exact he
 refine Qbs (hc.rising.filter _) r1 fun e=>?_
 rw [m1]
 unfold upM
 rw [List.mem_filter,decide_eq_true_eq]
 constructor
 ·rintro ⟨he,hk1⟩
  have hg:=(hm e).2 (hc.sub e he)
  obtain ⟨hl,hgood⟩:=Q83.1 hg
  have hmax:∀ x,x∈l→Q2k x→x.node=e.node→¬ Q19 x e:=fun x hx hgx hxn hb=>by
   obtain ⟨z,hz,hze⟩:=(hm x).1 (Q83.2 ⟨hx,hgx⟩)
   obtain ⟨c,hc1,hc2,hc3⟩:=hc.top z hz
   rw [hze] at hc2 hc3
   have:c=e:=by
    rcases Classical.em (c=e) with h | h
    ·exact h
    ·have hne:c.node≠e.node:=fun hh=>by
      obtain ⟨i,hi,rfl⟩:=List.mem_iff_getElem.1 hc1
      obtain ⟨j,hj,rfl⟩:=List.mem_iff_getElem.1 he
      have hp:=List.pairwise_iff_getElem.1 hc.rising
      rcases Nat.lt_trichotomy i j with q | q | q
      ·exact Q4B (hp i j hi hj q) hh
      ·subst q; exact h rfl
      ·exact Q4B (hp j i hj hi q) hh.symm
     exact absurd (hc2.trans hxn) hne
   subst this
   exact hc3 hb
  obtain ⟨i,hi,hie,hfirst⟩:=QhT hl
  refine ⟨i,hi,⟨by rw [hie]; exact hgood,fun k hk hbt=>?_⟩,by rw [hie]; exact hk1,hie.symm⟩
  obtain ⟨b1,b2,b3⟩:=hbt
  rw [hie] at b2 b3
  have hkm:Q0s l k∈l:=Q6Y hk
  have hnb:=hmax _ hkm b1 b2
  have hnr:¬ Q16 (Q0s l k) e:=fun h=>hnb (Q5L h)
  rcases b3 with b3 | ⟨b3,b4⟩
  ·exact hnr b3
  ·exact hfirst k b4 (QfN b2.symm hgood b1 hk1 b3 hnr).symm
 ·rintro ⟨i,hi,hci,hk1,rfl⟩
  obtain ⟨z,hz,hze⟩:=(hm _).1 (Q83.2 ⟨Q6Y hi,hci.1⟩)
  obtain ⟨c,hc1,hc2,hc3⟩:=hc.top z hz
  rw [hze] at hc2 hc3
  obtain ⟨hcl,hcg⟩:=Q83.1 ((hm c).2 (hc.sub c hc1))
  obtain ⟨k,hk,rfl⟩:=Q64 hcl
  have h1:¬ Q16 (Q0s l k) (Q0s l i):=fun h=>hci.2 k hk ⟨hcg,hc2,.inl h⟩
  have h2:¬ Q16 (Q0s l i) (Q0s l k):=fun h=>hc3 (Q5L h)
  have:=QfN hc2.symm hci.1 hcg hk1 h2 h1
  rw [this]
  exact ⟨hc1,by rw [←this]; exact hk1⟩
def Q8o (l:List Ev):Int:=l.foldl (fun m e=>if m < e.inc then e.inc else m) 0
open Classical in
theorem Qaa (l:List Ev):Q8o (Q1i l)=Q2S l l.length:=by
 have h:∀ n,n≤l.length→Q8o (Q1i (l.take n))=Q2S l n:=by
  intro n
  induction n with
  | zero=>intro _; rfl
  | succ n ih =>
   intro hn
   have e:l.take (n+1)=l.take n++[Q0s l n]:=by rw [List.take_succ_eq_append_getElem (by omega),Q4b (by omega)]
   have e2:Q1i (l.take n++[Q0s l n])=Q1i (l.take n)++Q1i [Q0s l n]:=by unfold Q1i; rw [List.filter_append]
   unfold Q2S
   rw [e,e2]
   unfold Q8o at ih ⊢
   rw [List.foldl_append,ih (by omega)]
   by_cases c:Q2k (Q0s l n)
   ·have e3:Q1i [Q0s l n]=[Q0s l n]:=by unfold Q1i; rw [List.filter_cons_of_pos (by simpa using c)]; rfl
    rw [e3]
    by_cases c2:Q2S l n < (Q0s l n).inc
    ·rw [if_pos ⟨c,c2⟩]; simp [c2]
    ·rw [if_neg (fun h=>c2 h.2)]; simp [c2]
   ·have e3:Q1i [Q0s l n]=[]:=by unfold Q1i; rw [List.filter_cons_of_neg (by simpa using c)]; rfl
    rw [e3,if_neg (fun h=>c h.1)]
    rfl
 have:=h l.length (Nat.le_refl _)
 rw [List.take_length] at this
 exact this
def Q0d (up:List Ev):List En:=(up.filter fun e=>decide (e.alias≠⟨#[]⟩)).map fun e=>⟨e.alias,e⟩
def Q9k (up:List Ev) (a:ByteArray):Prop:=∃ u,u∈up∧u.node=a
def Qmr (L:List En) (i:Nat):Prop:=∀ h:i < L.length,0 < i→(L[i - 1]'(by omega)).key≠L[i].key
open Classical in
noncomputable def Q2B (up:List Ev) (L:List En):Nat→List Ev
 | 0=>[]
 | i+1=>if h:i < L.length then
   (if (∃ _:0 < i,(L[i - 1]'(by omega)).key=L[i].key)∨Q9k up L[i].key then Q2B up L i else Q2B up L i++[L[i].ev]) else Q2B up L i
def Q5j (L:List En):Nat→List ByteArray
 | 0=>[]
 | i+1=>if h:i < L.length then
   (if (∃ _:0 < i,(L[i - 1]'(by omega)).key=L[i].key) then Q5j L i else Q5j L i++[L[i].key]) else Q5j L i
theorem Qdq {L:List En} (hs:Q2T L):∀ n,n≤L.length→Q7J (Q5j L n)∧(∀ k,k∈Q5j L n↔∃ (i:Nat) (h:i < L.length),i < n∧L[i].key=k)
 | 0,_=>⟨List.Pairwise.nil,fun k=>by simp [Q5j]⟩
 | n+1,hn=>by
  obtain ⟨h1,h2⟩:=Qdq hs n (by omega)
  have hp:=List.pairwise_iff_getElem.1 hs
  unfold Q5j
  rw [dif_pos (by omega)]
  by_cases c:∃ _:0 < n,(L[n - 1]'(by omega)).key=L[n].key
  ·rw [if_pos c]
   obtain ⟨c0,c1⟩:=c
   refine ⟨h1,fun k=>?_⟩
   rw [h2]
   constructor
   ·rintro ⟨i,hi,h3,h4⟩
    exact ⟨i,hi,by omega,h4⟩
   ·rintro ⟨i,hi,h3,h4⟩
    rcases Nat.lt_or_ge i n with q | q
    ·exact ⟨i,hi,q,h4⟩
    ·have:i=n:=by omega
     subst this
     exact ⟨i - 1,by omega,by omega,c1.trans h4⟩
  ·rw [if_neg c]
   have hlt:∀ i (hi:i < n),ltS (L[i]'(by omega)).key L[n].key=true:=by
    intro i hi
    have hn0:0 < n:=by omega
    have a1:ltS (L[n - 1]'(by omega)).key L[n].key=true:=by
     cases q:ltS (L[n - 1]'(by omega)).key L[n].key with
     | true=>rfl
     | false=>exact absurd ⟨hn0,Q1R q (hp (n - 1) n (by omega) (by omega) (by omega))⟩ c
    rcases Nat.lt_or_ge i (n - 1) with q | q
    ·exact Q8a (hp i (n - 1) (by omega) (by omega) q) a1
    ·have:i=n - 1:=by omega
     subst this
     exact a1
   refine ⟨List.pairwise_append.2 ⟨h1,List.pairwise_singleton _ _,fun a ha b hb=>?_⟩,fun k=>?_⟩
   ·rw [List.mem_singleton] at hb
    subst hb
    obtain ⟨i,hi,h3,rfl⟩:=(h2 a).1 ha
    exact hlt i h3
   ·rw [List.mem_append,h2,List.mem_singleton]
    constructor
    ·rintro (⟨i,hi,h3,h4⟩ | rfl)
     ·exact ⟨i,hi,by omega,h4⟩
     ·exact ⟨n,by omega,by omega,rfl⟩
    ·rintro ⟨i,hi,h3,h4⟩
     rcases Nat.lt_or_ge i n with q | q
     ·exact .inl ⟨i,hi,q,h4⟩
     ·have:i=n:=by omega
      subst this
      exact .inr h4.symm
def cnR (e:Ev):RI:=Q03 (Qj e.alias) 5 (Qj e.node)
theorem QcV {L:List En} (hs:Q2T L) {i:Nat} (h:i < L.length) (hf:¬ ∃ _:0 < i,(L[i - 1]'(by omega)).key=L[i].key):(Q0F L[i].key L).head? = some L[i]:=by
 have hp:=List.pairwise_iff_getElem.1 hs
 have e:L=L.take i++L[i] :: L.drop (i+1):=by rw [List.getElem_cons_drop,List.take_append_drop]
 have e0:Q0F L[i].key (L.take i)=[]:=Qav fun x hx hk=>by
  obtain ⟨j,hj,rfl⟩:=List.mem_iff_getElem.1 hx
  rw [List.length_take] at hj
  rw [List.getElem_take] at hk
  have hi0:0 < i:=by omega
  refine hf ⟨hi0,?_⟩
  have a1:=hp (i - 1) i (by omega) h (by omega)
  rcases Nat.lt_or_ge j (i - 1) with q | q
  ·have a2:=hp j (i - 1) (by omega) (by omega) q
   rw [hk] at a2
   exact Q1R a2 a1
  ·have:j=i - 1:=by omega
   subst this
   exact hk
 have e1:Q0F L[i].key L=Q0F L[i].key (L.take i)++Q0F L[i].key (L[i] :: L.drop (i+1)):=by
  have:∀ k,Q0F k L=Q0F k (L.take i)++Q0F k (L[i] :: L.drop (i+1)):=fun k=>by
   conv=>lhs; rw [e]
   unfold Q0F
   rw [List.filter_append]
  exact this _
 rw [e1,e0]
 unfold Q0F
 rw [List.filter_cons_of_pos (by simp)]
 rfl
theorem QiS {up:List Ev} {a:ByteArray} (ha:a≠⟨#[]⟩) {e:En} (h:(Q0F a (Q0d up)).head? = some e):∃ i,i < up.length∧Q0s up i=e.ev∧(Q0s up i).alias=a∧∀ k,k < i→(Q0s up k).alias≠a:=by
 induction up with
 | nil=>simp [Q0F,Q0d] at h
 | cons x up ih =>
  by_cases c:x.alias=a
  ·have e1:Q0d (x :: up)=⟨x.alias,x⟩ :: Q0d up:=by
    unfold Q0d
    rw [List.filter_cons_of_pos (by rw [c]; simpa using ha)]
    rfl
   rw [e1] at h
   unfold Q0F at h
   rw [List.filter_cons_of_pos (by simpa using c)] at h
   simp only [List.head?_cons,Option.some.injEq] at h
   subst h
   exact ⟨0,by simp,rfl,c,fun k hk=>by omega⟩
  ·have h':(Q0F a (Q0d up)).head? = some e:=by
    by_cases c2:x.alias=⟨#[]⟩
    ·have e1:Q0d (x :: up)=Q0d up:=by
      unfold Q0d
      rw [List.filter_cons_of_neg (by simpa using c2)]
     rw [e1] at h
     exact h
    ·have e1:Q0d (x :: up)=⟨x.alias,x⟩ :: Q0d up:=by
      unfold Q0d
      rw [List.filter_cons_of_pos (by simpa using c2)]
      rfl
     rw [e1] at h
     unfold Q0F at h
     rw [List.filter_cons_of_neg (by simpa using c)] at h
     exact h
   obtain ⟨i,h1,h2,h3,h4⟩:=ih h'
   refine ⟨i+1,by simpa using h1,h2,h3,fun k hk=>?_⟩
   cases k with
   | zero=>exact c
   | succ k=>exact h4 k (by omega)
theorem QcA {up:List Ev} (hn:∀ e,e∈up→e.node≠⟨#[]⟩) {L:List En} (hs:Q2T L) (hmem0:∀ e,e∈L→e∈Q0d up) (hkey0:∀ k,Q0F k L=Q0F k (Q0d up)):∀ n,n≤L.length→(Q2B up L n).map cnR=(Q5j L n).filterMap (Qc4 up)
 | 0,_=>rfl
 | n+1,hn'=>by
  have ih:=QcA hn hs hmem0 hkey0 n (by omega)
  have hmem:L[n]∈Q0d up:=hmem0 _ (List.getElem_mem _)
  have hkey:=hkey0 L[n].key
  have hfirst:=QcV hs (i:=n) (by omega)
  unfold Q2B Q5j
  rw [dif_pos (by omega),dif_pos (by omega)]
  by_cases c:∃ _:0 < n,(L[n - 1]'(by omega)).key=L[n].key
  ·rw [if_pos (.inl c),if_pos c]
   exact ih
  ·rw [if_neg c,List.filterMap_append,←ih]
   have hh:=hfirst c
   rw [hkey] at hh
   obtain ⟨e0,he0,hee⟩:=List.mem_map.1 hmem
   obtain ⟨_,hne⟩:=List.mem_filter.1 he0
   have ha:L[n].key≠⟨#[]⟩:=by rw [←hee]; simpa using hne
   obtain ⟨i,h1,h2,h3,h4⟩:=QiS ha hh
   have hb:Q3J up L[n].key up.length=L[n].ev.node:=by
    rw [Q9w up.length i (Nat.le_refl _) (by omega) h1 h3 fun k _ hk=>h4 k hk,h2]
   by_cases cu:Q9k up L[n].key
   ·rw [if_pos (.inr cu)]
    have:Qc4 up L[n].key=none:=by
     unfold Qc4 Q2Q
     rw [if_pos]
     rw [if_pos]
     obtain ⟨u,hu,hun⟩:=cu
     obtain ⟨j,hj,rfl⟩:=Q64 hu
     exact ⟨j,hj,hun⟩
    rw [List.filterMap_cons,this]
    simp
   ·rw [if_neg (fun h=>h.elim c cu)]
    have hnb:¬ ∃ i,i < up.length∧(Q0s up i).node=L[n].key:=fun ⟨j,hj,hjn⟩=>cu ⟨_,Q6Y hj,hjn⟩
    have hnode:L[n].ev.node≠⟨#[]⟩:=by rw [←h2]; exact hn _ (Q6Y h1)
    have:Qc4 up L[n].key=some (cnR L[n].ev):=by
     unfold Qc4 Q2Q
     rw [if_neg hnb,hb,if_neg hnode]
     unfold cnR
     rw [←h2,h3]
    rw [List.filterMap_cons,this,List.map_append]
    simp
theorem Qjy {up:List Ev} (k:ByteArray):(∃ (i:Nat) (h:i < (Q0f (Q0d up)).length),i < (Q0f (Q0d up)).length∧(Q0f (Q0d up))[i].key=k)↔∃ e,e∈up∧e.alias=k∧k≠⟨#[]⟩:=by
 constructor
 ·rintro ⟨i,h,_,rfl⟩
  obtain ⟨e,he,hee⟩:=List.mem_map.1 (Q45.1 (List.getElem_mem h))
  obtain ⟨h1,h2⟩:=List.mem_filter.1 he
  rw [←hee]
  exact ⟨e,h1,rfl,by simpa using h2⟩
 ·rintro ⟨e,he,rfl,hne⟩
  have:(⟨e.alias,e⟩:En)∈Q0f (Q0d up):=Q45.2 (List.mem_map.2 ⟨e,List.mem_filter.2 ⟨he,by simpa using hne⟩,rfl⟩)
  obtain ⟨i,hi,hie⟩:=List.mem_iff_getElem.1 this
  exact ⟨i,hi,hi,by rw [hie]⟩
theorem Qj2 {up:List Ev} (hn:∀ e,e∈up→e.node≠⟨#[]⟩):(Q2B up (Q0f (Q0d up)) (Q0f (Q0d up)).length).map cnR=(Q1Z up up.length).1:=by
 rw [QcA hn (Q2s _) (fun e he=>Q45.1 he) (fun k=>Q7I k _) _ (Nat.le_refl _)]
 obtain ⟨h1,h2⟩:=Qdq (Q2s (Q0d up)) _ (Nat.le_refl _)
 exact (QiY up _ h1 fun a=>(h2 a).trans (Qjy a)).symm
noncomputable def Qg (l:List Ev):List RI :=
 [Q03 Qm 6 (Q5Q (Q8o (Q1i l)).toNat),Q03 Qm 2 Q0C]++(upM l).flatMap Q0y++(Q2B (upM l) (Q0f (Q0d (upM l))) (Q0f (Q0d (upM l))).length).map cnR++(upM l).map Q1o
theorem Q3E (l:List Ev):Qg l=Q0J l:=by
 have hn:∀ e,e∈upP l→e.node≠⟨#[]⟩:=fun e he=>by
  obtain ⟨i,_,ci,_,rfl⟩:=((Q66 l).2 e).1 he
  exact QdT ci.1.1
 unfold Qg Q0J
 rw [Q5k,Qaa,Qj2 hn]
end Go.Proofs.YtdhobdmhnocbgabGreatDoor
