import Derived.Test.YtdhobdmhnocbgabGreatDoorSMsgs
import Derived.Test.YtdhobdmhnocbgabGreatDoorSItoa
namespace Go.Proofs.YtdhobdmhnocbgabGreatDoor
open Zr
structure Ev where
 kind:Int
 node:ByteArray
 inc:Int
 addr:ByteArray
 port:Int
 text:ByteArray
 alias:ByteArray
instance:Inhabited Ev:=⟨⟨0,⟨#[]⟩,0,⟨#[]⟩,0,⟨#[]⟩,⟨#[]⟩⟩⟩
def ltS (x y:ByteArray):Bool:=Go.Op.bytesLess x.toList y.toList
def Q8j (c:Nat):Prop:=(97≤c∧c≤122)∨(48≤c∧c≤57)∨c=45
def Q2A (s:ByteArray):Prop:=(∀ i,i < s.size→Q8j (bt s i))∧1≤s.size∧s.size≤15
def Q5h (e:Ev):Prop:=(e.alias=⟨#[]⟩∨Q2A e.alias)∧(e.addr.size=4∨e.addr.size=16)∧0≤e.port∧e.port≤65535∧e.text.size≤60
def Q2i (e:Ev):Prop:=Q2A e.node∧0≤e.inc∧e.inc≤2147483647∧(e.kind=2∨(e.kind=1∧Q5h e))
def Q16 (a b:Ev):Prop :=
 if a.inc≠b.inc then b.inc < a.inc else if a.kind≠b.kind then a.kind=2 else if a.kind=2 then False else
 if a.addr≠b.addr then ltS b.addr a.addr=true else if a.port≠b.port then b.port < a.port else if a.text≠b.text then ltS b.text a.text=true else ltS b.alias a.alias=true
def Q0s (l:List Ev) (i:Nat):Ev:=l[i]?.getD default
def Q4R (l:List Ev) (i k:Nat):Prop:=Q2i (Q0s l k)∧(Q0s l k).node=(Q0s l i).node∧(Q16 (Q0s l k) (Q0s l i)∨(¬ Q16 (Q0s l i) (Q0s l k)∧k < i))
def Q38 (l:List Ev) (i:Nat):Prop:=Q2i (Q0s l i)∧∀ k,k < l.length→¬ Q4R l i k
open Classical in
noncomputable def Q3p (l:List Ev):Nat→List Ev
 | 0=>[]
 | i+1=>Q3p l i++(if Q38 l i∧(Q0s l i).kind=1 then [Q0s l i] else [])
def Q1F (all:List Ev) (last:ByteArray):Nat→Option Nat
 | 0=>none
 | i+1 =>
  if ltS last (Q0s all i).node=true∧(∀ b,Q1F all last i=some b→ltS (Q0s all i).node (Q0s all b).node=true) then some i else Q1F all last i
def Q7j (all:List Ev) (s:List Ev × ByteArray):List Ev × ByteArray :=
 match Q1F all s.2 all.length with
 | none=>s
 | some b=>(s.1++[Q0s all b],(Q0s all b).node)
def Q5G (all:List Ev):Nat→List Ev × ByteArray
 | 0=>([],⟨#[]⟩)
 | k+1=>Q7j all (Q5G all k)
noncomputable def upP (l:List Ev):List Ev:=(Q5G (Q3p l l.length) (Q3p l l.length).length).1
open Classical in
noncomputable def Q2S (l:List Ev):Nat→Int
 | 0=>0
 | i+1=>if Q2i (Q0s l i)∧Q2S l i < (Q0s l i).inc then (Q0s l i).inc else Q2S l i
def Qm:ByteArray:=⟨#[3,115,118,99,4,109,101,115,104,0]⟩
def Q0D:ByteArray:=⟨#[2,110,115,3,115,118,99,4,109,101,115,104,0]⟩
def Q89:ByteArray:=⟨#[5,97,100,109,105,110,3,115,118,99,4,109,101,115,104,0]⟩
def Q36:ByteArray:=⟨#[5,95,110,111,100,101,4,95,116,99,112,3,115,118,99,4,109,101,115,104,0]⟩
def one (n:Nat):ByteArray:=⟨#[UInt8.ofNat n]⟩
def Qj (s:ByteArray):ByteArray:=one s.size++s++Qm
def Q04 (name:ByteArray) (t:Int) (data:ByteArray):RI:=⟨name,t,1,30,data⟩
def Q3J (up:List Ev) (a:ByteArray):Nat→ByteArray
 | 0=>⟨#[]⟩
 | i+1=>if (Q0s up (up.length - 1 - i)).alias=a then (Q0s up (up.length - 1 - i)).node else Q3J up a i
def Q2L (up:List Ev) (a:ByteArray):ByteArray:=if (∃ i,i < up.length∧(Q0s up i).node=a) then ⟨#[]⟩ else Q3J up a up.length
def Q0C (up:List Ev) (last:ByteArray):Nat→ByteArray
 | 0=>⟨#[]⟩
 | i+1 =>
  if ltS last (Q0s up i).alias=true∧(Q0C up last i=⟨#[]⟩∨ltS (Q0s up i).alias (Q0C up last i)=true) then (Q0s up i).alias else Q0C up last i
def Q37 (up:List Ev) (s:List RI × ByteArray):List RI × ByteArray :=
 if Q0C up s.2 up.length=⟨#[]⟩ then s
 else (if Q2L up (Q0C up s.2 up.length)=⟨#[]⟩ then s.1 else s.1++[Q04 (Qj (Q0C up s.2 up.length)) 5 (Qj (Q2L up (Q0C up s.2 up.length)))],Q0C up s.2 up.length)
def Q1Z (up:List Ev):Nat→List RI × ByteArray
 | 0=>([],⟨#[]⟩)
 | k+1=>Q37 up (Q1Z up k)
def Q5U (n:Nat):ByteArray:=Q0D++Q89++q4 n++q4 3600++q4 600++q4 86400++q4 30
def Q0y (e:Ev):List RI:=Q04 (Qj e.node) (if e.addr.size=16 then 28 else 1) e.addr :: (if e.text=⟨#[]⟩ then [] else [Q04 (Qj e.node) 16 (one e.text.size++e.text)])
def Q1q (e:Ev):RI:=Q04 Q36 33 (q4 0++wd e.port.toNat++Qj e.node)
noncomputable def Q0I (l:List Ev):List RI :=
 [Q04 Qm 6 (Q5U (Q2S l l.length).toNat),Q04 Qm 2 Q0D]++(upP l).flatMap Q0y++(Q1Z (upP l) (upP l).length).1++(upP l).map Q1q
def evC (l:List Ev):List Go.Value:=l.flatMap fun x=>[.int .i64 x.kind,.string x.node,.int .i64 x.inc,.string x.addr,.int .i64 x.port,.string x.text,.string x.alias]
theorem Qba:∀ x:List UInt8,Go.Op.bytesLess x x=false
 | []=>rfl
 | a :: x=>by
  simp only [Go.Op.bytesLess,Qba x,Bool.and_false,Bool.or_false]
  exact decide_eq_false (UInt8.lt_irrefl a)
theorem QcJ:∀ {x y z:List UInt8},Go.Op.bytesLess x y=true→Go.Op.bytesLess y z=true→Go.Op.bytesLess x z=true
 | _,[],_,h,_=>by simp [Go.Op.bytesLess] at h
 | _,_ :: _,[],_,h=>by simp [Go.Op.bytesLess] at h
 | [],_ :: _,_ :: _,_,_=>rfl
 | a :: x,b :: y,c :: z,h1,h2=>by
  simp only [Go.Op.bytesLess,Bool.or_eq_true,Bool.and_eq_true,decide_eq_true_eq,beq_iff_eq] at h1 h2 ⊢
  rcases h1 with h1 | ⟨rfl,h1⟩
  ·rcases h2 with h2 | ⟨rfl,_⟩
   ·exact .inl (UInt8.lt_trans h1 h2)
   ·exact .inl h1
  ·rcases h2 with h2 | ⟨rfl,h2⟩
   ·exact .inl h2
   ·exact .inr ⟨rfl,QcJ h1 h2⟩
theorem QcI:∀ {x y:List UInt8},Go.Op.bytesLess x y=false→Go.Op.bytesLess y x=false→x=y
 | [],[],_,_=>rfl
 | [],_ :: _,h,_=>by simp [Go.Op.bytesLess] at h
 | _ :: _,[],_,h=>by simp [Go.Op.bytesLess] at h
 | a :: x,b :: y,h1,h2=>by
  simp only [Go.Op.bytesLess,Bool.or_eq_false_iff,Bool.and_eq_false_iff,decide_eq_false_iff_not,beq_eq_false_iff_ne] at h1 h2
  have e:a=b:=UInt8.le_antisymm (UInt8.not_lt.1 h2.1) (UInt8.not_lt.1 h1.1)
  subst e
  rcases h1.2 with h | h
  ·exact absurd rfl h
  ·rcases h2.2 with k | k
   ·exact absurd rfl k
   ·rw [QcI h k]
theorem Q1f (x:ByteArray):ltS x x=false:=Qba _
theorem Q1U {x y z:ByteArray} (h1:ltS x y=true) (h2:ltS y z=true):ltS x z=true:=QcJ h1 h2
theorem Q1T {x y:ByteArray} (h1:ltS x y=false) (h2:ltS y x=false):x=y:=by
 have e:=QcI h1 h2
 have h:(x.toList == y.toList)=true:=by rw [e]; exact beq_self_eq_true _
 rw [Q1C] at h
 exact of_decide_eq_true h
theorem Q4k {x y:ByteArray} (h:ltS x y=true):ltS y x=false:=by
 cases e:ltS y x with
 | false=>rfl
 | true=>have:=Q1U h e; rw [Q1f] at this; cases this
theorem Q4w {x y:ByteArray} (h:ltS x y=true):x≠y:=fun e=>by subst e; rw [Q1f] at h; cases h
theorem QfL (x:ByteArray):ltS x ⟨#[]⟩=false:=by
 unfold ltS
 rw [ByteArray.toList_eq ⟨#[]⟩]
 cases x.toList <;> rfl
theorem QfM {x:ByteArray}:ltS ⟨#[]⟩ x=true↔x≠⟨#[]⟩:=by
 constructor
 ·exact fun h e=>Q4w h e.symm
 ·intro h
  cases e:ltS ⟨#[]⟩ x with
  | true=>rfl
  | false=>exact absurd (Q1T e (QfL x)).symm h
theorem Q71 {l:List Ev} {i:Nat} (h:i < l.length):Q0s l i∈l:=by
 unfold Q0s
 rw [List.getElem?_eq_getElem h]
 exact List.getElem_mem h
theorem Q64 {l:List Ev} {e:Ev} (h:e∈l):∃ i,i < l.length∧Q0s l i=e:=by
 obtain ⟨i,hi,he⟩:=List.mem_iff_getElem.1 h
 refine ⟨i,hi,?_⟩
 unfold Q0s
 rw [List.getElem?_eq_getElem hi]
 exact he
theorem Q4c {l:List Ev} {i:Nat} (h:i < l.length):Q0s l i=l[i]:=by
 unfold Q0s
 rw [List.getElem?_eq_getElem h]
 rfl
theorem Q8n {x y z:ByteArray} (h1:ltS y x=false) (h2:ltS y z=true):ltS x z=true:=by
 cases e:ltS x y with
 | true=>exact Q1U e h2
 | false=>rw [Q1T e h1]; exact h2
theorem Q8b {all:List Ev} {last:ByteArray}:∀ n,Q1F all last n=none→∀ i,i < n→ltS last (Q0s all i).node=false
 | 0,_,i,h=>by omega
 | n+1,h,i,hi=>by
  unfold Q1F at h
  split at h
  ·cases h
  ·next hc =>
   rcases Nat.lt_or_ge i n with c | c
   ·exact Q8b n h i c
   ·have:i=n:=by omega
    subst this
    cases e:ltS last (Q0s all i).node with
    | false=>rfl
    | true=>exact absurd ⟨e,fun b hb=>by rw [h] at hb; cases hb⟩ hc
theorem Q4X {all:List Ev} {last:ByteArray}:∀ n b,Q1F all last n=some b→b < n∧ltS last (Q0s all b).node=true∧∀ i,i < n→ltS last (Q0s all i).node=true→ltS (Q0s all i).node (Q0s all b).node=false
 | 0,b,h=>by simp [Q1F] at h
 | n+1,b,h=>by
  unfold Q1F at h
  split at h
  ·next hc =>
   cases h
   refine ⟨by omega,hc.1,fun i hi hl=>?_⟩
   rcases Nat.lt_or_ge i n with c | c
   ·cases eb:Q1F all last n with
    | none=>rw [Q8b n eb i c] at hl; cases hl
    | some b =>
     obtain ⟨_,_,h3⟩:=Q4X n b eb
     cases e:ltS (Q0s all i).node (Q0s all n).node with
     | false=>rfl
     | true=>have:=Q1U e (hc.2 b eb); rw [h3 i c hl] at this; cases this
   ·have:i=n:=by omega
    subst this
    exact Q1f _
  ·next hc =>
   obtain ⟨h1,h2,h3⟩:=Q4X n b h
   refine ⟨by omega,h2,fun i hi hl=>?_⟩
   rcases Nat.lt_or_ge i n with c | c
   ·exact h3 i c hl
   ·have:i=n:=by omega
    subst this
    cases e:ltS (Q0s all i).node (Q0s all b).node with
    | false=>rfl
    | true=>exact absurd ⟨hl,fun b' hb'=>by rw [h] at hb'; cases hb'; exact e⟩ hc
def Q3H (l:List Ev):Prop:=l.Pairwise fun a b=>ltS a.node b.node=true
def Q5L (all:List Ev) (last:ByteArray):Nat:=all.countP fun e=>ltS last e.node
theorem Q9w {p q:Ev→Bool}:∀ {l:List Ev},(∀ e,e∈l→p e=true→q e=true)→(∃ e,e∈l∧q e=true∧p e=false)→l.countP p < l.countP q
 | [],_,h=>by obtain ⟨e,he,_⟩:=h; simp at he
 | x :: l,h1,h2=>by
  have hle:l.countP p≤l.countP q:=List.countP_mono_left fun e he hp=>h1 e (List.mem_cons_of_mem _ he) hp
  obtain ⟨e,he,hq,hp⟩:=h2
  rcases List.mem_cons.1 he with rfl | he
  ·rw [List.countP_cons_of_neg (by rw [hp]; simp),List.countP_cons_of_pos hq]
   omega
  ·have ih:=Q9w (fun e he=>h1 e (List.mem_cons_of_mem _ he)) ⟨e,he,hq,hp⟩
   cases ep:p x with
   | true=>rw [List.countP_cons_of_pos ep,List.countP_cons_of_pos (h1 x List.mem_cons_self ep)]; omega
   | false =>
    rw [List.countP_cons_of_neg (by rw [ep]; simp)]
    have:l.countP q≤(x :: l).countP q:=by rw [List.countP_cons]; omega
    omega
structure Ql2 (all:List Ev) (k:Nat) (s:List Ev × ByteArray):Prop where
 rising:Q3H s.1
 low:∀ e,e∈s.1→ltS s.2 e.node=false
 sub:∀ e,e∈s.1→e∈all
 got:∀ e,e∈all→ltS s.2 e.node=false→e∈s.1
 less:Q5L all s.2≤all.length - k
theorem Qjx {all:List Ev} (hd:∀ a b,a∈all→b∈all→a.node=b.node→a=b) (hn:∀ e,e∈all→e.node≠⟨#[]⟩):∀ k,Ql2 all k (Q5G all k)
 | 0=>⟨List.Pairwise.nil,fun e he=>by simp [Q5G] at he,fun e he=>by simp [Q5G] at he,fun e he hl=>by
   have:=QfM.2 (hn e he)
   rw [show (Q5G all 0).2=⟨#[]⟩ from rfl] at hl
   rw [hl] at this
   exact Bool.noConfusion this,(by unfold Q5L; exact List.countP_le_length)⟩
 | k+1=>by
  have ih:=Qjx hd hn k
  show Ql2 all (k+1) (Q7j all (Q5G all k))
  generalize Q5G all k=s at *
  obtain ⟨out,last⟩:=s
  unfold Q7j
  cases eb:Q1F all last all.length with
  | none =>
   refine ⟨ih.rising,ih.low,ih.sub,ih.got,?_⟩
   have h0:Q5L all last=0:=by
    unfold Q5L
    rw [List.countP_eq_zero]
    intro e he
    obtain ⟨i,hi,rfl⟩:=Q64 he
    rw [Q8b _ eb i hi]
    simp
   show Q5L all last≤_
   rw [h0]
   exact Nat.zero_le _
  | some b =>
   obtain ⟨hb,hl,hm⟩:=Q4X _ _ eb
   have hbm:=Q71 hb
   have hlow:∀ e,e∈out→ltS e.node (Q0s all b).node=true:=fun e he=>Q8n (ih.low e he) hl
   refine ⟨?_,?_,?_,?_,?_⟩
   ·show Q3H (out++[Q0s all b])
    refine List.pairwise_append.2 ⟨ih.rising,List.pairwise_singleton _ _,fun x hx y hy=>?_⟩
    rw [List.mem_singleton] at hy
    subst hy
    exact hlow x hx
   ·intro e he
    rcases List.mem_append.1 he with he | he
    ·exact Q4k (hlow e he)
    ·rw [List.mem_singleton] at he
     subst he
     exact Q1f _
   ·intro e he
    rcases List.mem_append.1 he with he | he
    ·exact ih.sub e he
    ·rw [List.mem_singleton] at he
     subst he
     exact hbm
   ·intro e he hle
    show e∈out++[Q0s all b]
    cases el:ltS last e.node with
    | false=>exact List.mem_append_left _ (ih.got e he el)
    | true =>
     obtain ⟨i,hi,rfl⟩:=Q64 he
     have e1:=hm i hi el
     have e2:(Q0s all b).node=(Q0s all i).node:=Q1T hle e1
     rw [hd _ _ he hbm e2.symm]
     simp
   ·show Q5L all (Q0s all b).node≤_
    have hc:Q5L all (Q0s all b).node < Q5L all last:=by
     refine Q9w (fun e _ h=>Q1U hl h) ⟨_,hbm,hl,Q1f _⟩
    have:=ih.less
    show Q5L all (Q0s all b).node≤all.length - (k+1)
    have h2:Q5L all last≤all.length - k:=this
    omega
theorem Qm2 {all:List Ev} (hd:∀ a b,a∈all→b∈all→a.node=b.node→a=b) (hn:∀ e,e∈all→e.node≠⟨#[]⟩):Q3H (Q5G all all.length).1∧∀ e,e∈(Q5G all all.length).1↔e∈all:=by
 have h:=Qjx hd hn all.length
 refine ⟨h.rising,fun e=>⟨h.sub e,fun he=>h.got e he ?_⟩⟩
 have h0:Q5L all (Q5G all all.length).2=0:=by have:=h.less; omega
 unfold Q5L at h0
 rw [List.countP_eq_zero] at h0
 simpa using h0 e he
theorem QbD:∀ {a b:List Ev},Q3H a→Q3H b→(∀ e,e∈a↔e∈b)→a=b
 | [],[],_,_,_=>rfl
 | [],y :: b,_,_,h=>by have:=(h y).2 List.mem_cons_self; simp at this
 | x :: a,[],_,_,h=>by have:=(h x).1 List.mem_cons_self; simp at this
 | x :: a,y :: b,ha,hb,h=>by
  obtain ⟨ha1,ha2⟩:=List.pairwise_cons.1 ha
  obtain ⟨hb1,hb2⟩:=List.pairwise_cons.1 hb
  have e:x=y:=by
   rcases List.mem_cons.1 ((h x).1 List.mem_cons_self) with e | hx
   ·exact e
   ·rcases List.mem_cons.1 ((h y).2 List.mem_cons_self) with e | hy
    ·exact e.symm
    ·have:=Q1U (hb1 x hx) (ha1 y hy)
     rw [Q1f] at this
     cases this
  subst e
  rw [QbD ha2 hb2 fun e=>⟨fun he=>?_,fun he=>?_⟩]
  ·rcases List.mem_cons.1 ((h e).1 (List.mem_cons_of_mem _ he)) with rfl | h'
   ·exact absurd rfl (Q4w (ha1 _ he))
   ·exact h'
  ·rcases List.mem_cons.1 ((h e).2 (List.mem_cons_of_mem _ he)) with rfl | h'
   ·exact absurd rfl (Q4w (hb1 _ he))
   ·exact h'
theorem Q7w {l:List Ev}:∀ {n:Nat} {e:Ev},e∈Q3p l n↔∃ i,i < n∧Q38 l i∧(Q0s l i).kind=1∧e=Q0s l i
 | 0,e=>by simp [Q3p]
 | n+1,e=>by
  unfold Q3p
  rw [List.mem_append,Q7w]
  constructor
  ·rintro (⟨i,h1,h2⟩ | h)
   ·exact ⟨i,by omega,h2⟩
   ·split at h
    ·next hc =>
     rw [List.mem_singleton] at h
     exact ⟨n,by omega,hc.1,hc.2,h⟩
    ·simp at h
  ·rintro ⟨i,h1,h2,h3,h4⟩
   rcases Nat.lt_or_ge i n with c | c
   ·exact .inl ⟨i,c,h2,h3,h4⟩
   ·have:i=n:=by omega
    subst this
    refine .inr ?_
    rw [if_pos ⟨h2,h3⟩,h4]
    simp
theorem Qen {l:List Ev} {i k:Nat} (hi:Q38 l i) (hk:Q38 l k) (h1:i < l.length) (h2:k < l.length) (hn:(Q0s l i).node=(Q0s l k).node):i=k:=by
 rcases Nat.lt_trichotomy i k with c | c | c
 ·have a1:=hi.2 k h2
  have a2:=hk.2 i h1
  have r1:¬ Q16 (Q0s l k) (Q0s l i):=fun h=>a1 ⟨hk.1,hn.symm,.inl h⟩
  exact absurd ⟨hi.1,hn,.inr ⟨r1,c⟩⟩ a2
 ·exact c
 ·have a1:=hi.2 k h2
  have a2:=hk.2 i h1
  have r1:¬ Q16 (Q0s l i) (Q0s l k):=fun h=>a2 ⟨hi.1,hn,.inl h⟩
  exact absurd ⟨hk.1,hn.symm,.inr ⟨r1,c⟩⟩ a1
theorem QcV {s:ByteArray} (h:Q2A s):s≠⟨#[]⟩:=fun e=>by
 subst e
 exact absurd (show 1≤0 from h.2.1) (by omega)
theorem Q6k (l:List Ev):Q3H (upP l)∧∀ e,e∈upP l↔∃ i,i < l.length∧Q38 l i∧(Q0s l i).kind=1∧e=Q0s l i:=by
 have hd:∀ a b,a∈Q3p l l.length→b∈Q3p l l.length→a.node=b.node→a=b:=fun a b ha hb h=>by
  obtain ⟨i,hi,ci,_,rfl⟩:=Q7w.1 ha
  obtain ⟨k,hk,ck,_,rfl⟩:=Q7w.1 hb
  rw [Qen ci ck hi hk h]
 have hn:∀ e,e∈Q3p l l.length→e.node≠⟨#[]⟩:=fun e he=>by
  obtain ⟨i,_,ci,_,rfl⟩:=Q7w.1 he
  exact QcV ci.1.1
 obtain ⟨h1,h2⟩:=Qm2 hd hn
 exact ⟨h1,fun e=>(h2 e).trans Q7w⟩
theorem Q74 {up:List Ev} {last:ByteArray}:∀ n,Q0C up last n=⟨#[]⟩→∀ i,i < n→ltS last (Q0s up i).alias=false
 | 0,_,i,h=>by omega
 | n+1,h,i,hi=>by
  unfold Q0C at h
  split at h
  ·next hc=>rw [h,QfL] at hc; exact Bool.noConfusion hc.1
  ·next hc =>
   rcases Nat.lt_or_ge i n with c | c
   ·exact Q74 n h i c
   ·have:i=n:=by omega
    subst this
    cases e:ltS last (Q0s up i).alias with
    | false=>rfl
    | true=>exact absurd ⟨e,.inl h⟩ hc
theorem Q5s {up:List Ev} {last:ByteArray}:∀ n,Q0C up last n≠⟨#[]⟩→(∃ i,i < n∧(Q0s up i).alias=Q0C up last n)∧ltS last (Q0C up last n)=true∧∀ i,i < n→ltS last (Q0s up i).alias=true→ltS (Q0s up i).alias (Q0C up last n)=false
 | 0,h=>absurd rfl h
 | n+1,h=>by
  unfold Q0C at h ⊢
  split at h
  ·next hc =>
   rw [if_pos hc]
   refine ⟨⟨n,by omega,rfl⟩,hc.1,fun i hi hl=>?_⟩
   rcases Nat.lt_or_ge i n with c | c
   ·by_cases e0:Q0C up last n=⟨#[]⟩
    ·rw [Q74 n e0 i c] at hl; exact Bool.noConfusion hl
    ·obtain ⟨_,_,h3⟩:=Q5s n e0
     cases e:ltS (Q0s up i).alias (Q0s up n).alias with
     | false=>rfl
     | true =>
      rcases hc.2 with h' | h'
      ·exact absurd h' e0
      ·have:=Q1U e h'; rw [h3 i c hl] at this; exact Bool.noConfusion this
   ·have:i=n:=by omega
    subst this
    exact Q1f _
  ·next hc =>
   rw [if_neg hc]
   obtain ⟨⟨j,hj,ej⟩,h2,h3⟩:=Q5s n h
   refine ⟨⟨j,by omega,ej⟩,h2,fun i hi hl=>?_⟩
   rcases Nat.lt_or_ge i n with c | c
   ·exact h3 i c hl
   ·have:i=n:=by omega
    subst this
    cases e:ltS (Q0s up i).alias (Q0C up last i) with
    | false=>rfl
    | true=>exact absurd ⟨hl,.inr e⟩ hc
def Q7p (l:List ByteArray):Prop:=l.Pairwise fun a b=>ltS a b=true
theorem Qaf:∀ {a b:List ByteArray},Q7p a→Q7p b→(∀ e,e∈a↔e∈b)→a=b
 | [],[],_,_,_=>rfl
 | [],y :: b,_,_,h=>by have:=(h y).2 List.mem_cons_self; simp at this
 | x :: a,[],_,_,h=>by have:=(h x).1 List.mem_cons_self; simp at this
 | x :: a,y :: b,ha,hb,h=>by
  obtain ⟨ha1,ha2⟩:=List.pairwise_cons.1 ha
  obtain ⟨hb1,hb2⟩:=List.pairwise_cons.1 hb
  have e:x=y:=by
   rcases List.mem_cons.1 ((h x).1 List.mem_cons_self) with e | hx
   ·exact e
   ·rcases List.mem_cons.1 ((h y).2 List.mem_cons_self) with e | hy
    ·exact e.symm
    ·have:=Q1U (hb1 x hx) (ha1 y hy)
     rw [Q1f] at this
     cases this
  subst e
  rw [Qaf ha2 hb2 fun e=>⟨fun he=>?_,fun he=>?_⟩]
  ·rcases List.mem_cons.1 ((h e).1 (List.mem_cons_of_mem _ he)) with rfl | h'
   ·exact absurd rfl (Q4w (ha1 _ he))
   ·exact h'
  ·rcases List.mem_cons.1 ((h e).2 (List.mem_cons_of_mem _ he)) with rfl | h'
   ·exact absurd rfl (Q4w (hb1 _ he))
   ·exact h'
def QbV (up:List Ev) (a:ByteArray):Option RI:=if Q2L up a=⟨#[]⟩ then none else some (Q04 (Qj a) 5 (Qj (Q2L up a)))
def Q4Q (up:List Ev) (last:ByteArray):Nat:=up.countP fun e=>ltS last e.alias
structure QkZ (up:List Ev) (k:Nat) (s:List RI × ByteArray):Prop where
 ex:∃ S:List ByteArray,Q7p S∧(∀ a,a∈S→ltS s.2 a=false)∧(∀ a,a∈S→∃ e,e∈up∧e.alias=a∧a≠⟨#[]⟩)∧(∀ e,e∈up→e.alias≠⟨#[]⟩→ltS s.2 e.alias=false→e.alias∈S)∧s.1=S.filterMap (QbV up)
 less:Q4Q up s.2≤up.length - k
theorem Qe8 (up:List Ev):∀ k,QkZ up k (Q1Z up k)
 | 0=>⟨⟨[],List.Pairwise.nil,fun a ha=>by simp at ha,fun a ha=>by simp at ha,fun e _ h1 h2=>by
   have:=QfM.2 h1
   rw [show (Q1Z up 0).2=⟨#[]⟩ from rfl] at h2
   rw [h2] at this
   exact Bool.noConfusion this,rfl⟩,(by unfold Q4Q; exact List.countP_le_length)⟩
 | k+1=>by
  have ih:=Qe8 up k
  show QkZ up (k+1) (Q37 up (Q1Z up k))
  generalize Q1Z up k=s at *
  obtain ⟨out,last⟩:=s
  obtain ⟨⟨S,s1,s2,s3,s4,s5⟩,hless⟩:=ih
  simp only at s2 s4 s5 hless
  unfold Q37
  simp only
  by_cases e0:Q0C up last up.length=⟨#[]⟩
  ·rw [if_pos e0]
   refine ⟨⟨S,s1,s2,s3,s4,s5⟩,?_⟩
   have h0:Q4Q up last=0:=by
    unfold Q4Q
    rw [List.countP_eq_zero]
    intro e he
    obtain ⟨i,hi,rfl⟩:=Q64 he
    rw [Q74 _ e0 i hi]
    simp
   show Q4Q up last≤_
   rw [h0]
   exact Nat.zero_le _
  ·rw [if_neg e0]
   obtain ⟨⟨i,hi,ei⟩,hl,hm⟩:=Q5s _ e0
   generalize Q0C up last up.length=a at *
   have hlow:∀ x,x∈S→ltS x a=true:=fun x hx=>Q8n (s2 x hx) hl
   refine ⟨⟨S++[a],?_,?_,?_,?_,?_⟩,?_⟩
   ·refine List.pairwise_append.2 ⟨s1,List.pairwise_singleton _ _,fun x hx y hy=>?_⟩
    rw [List.mem_singleton] at hy
    subst hy
    exact hlow x hx
   ·intro x hx
    rcases List.mem_append.1 hx with hx | hx
    ·exact Q4k (hlow x hx)
    ·rw [List.mem_singleton] at hx
     subst hx
     exact Q1f _
   ·intro x hx
    rcases List.mem_append.1 hx with hx | hx
    ·exact s3 x hx
    ·rw [List.mem_singleton] at hx
     subst hx
     exact ⟨_,Q71 hi,ei,e0⟩
   ·intro e he h1 h2
    cases el:ltS last e.alias with
    | false=>exact List.mem_append_left _ (s4 e he h1 el)
    | true =>
     obtain ⟨j,hj,rfl⟩:=Q64 he
     have k1:=hm j hj el
     rw [Q1T k1 h2]
     simp
   ·rw [List.filterMap_append,←s5]
    unfold QbV
    by_cases eb:Q2L up a=⟨#[]⟩
    ·simp [eb]
    ·simp [eb]
   ·have hc:Q4Q up a < Q4Q up last:=by
     refine Q9w (fun e _ h=>Q1U hl h) ⟨_,Q71 hi,?_,?_⟩
     ·rw [ei]; exact hl
     ·rw [ei]; exact Q1f _
    show Q4Q up a≤up.length - (k+1)
    omega
theorem QhL (up:List Ev) (S:List ByteArray) (h1:Q7p S) (h2:∀ a,a∈S↔∃ e,e∈up∧e.alias=a∧a≠⟨#[]⟩):(Q1Z up up.length).1=S.filterMap (QbV up):=by
 obtain ⟨⟨T,t1,_,t3,t4,t5⟩,hless⟩:=Qe8 up up.length
 have h0:Q4Q up (Q1Z up up.length).2=0:=by omega
 unfold Q4Q at h0
 rw [List.countP_eq_zero] at h0
 have e:T=S:=Qaf t1 h1 fun a=>by
  rw [h2]
  constructor
  ·exact t3 a
  ·rintro ⟨e,he,rfl,hne⟩
   exact t4 e he hne (by simpa using h0 e he)
 rw [t5,e]
section
variable {α:Type} [DecidableEq α]
def Q2G (f:Ev→α) (lt:α→α→Prop) (R:Ev→Ev→Prop) (a b:Ev):Prop:=if f a≠f b then lt (f b) (f a) else R a b
theorem Q6x {f:Ev→α} {lt:α→α→Prop} {R:Ev→Ev→Prop} (hlt:∀ x y z:α,x≠y→y≠z→lt y x→lt z y→x≠z∧lt z x) (hR:∀ a b c,R a b→R b c→R a c) {a b c:Ev} (h1:Q2G f lt R a b) (h2:Q2G f lt R b c):Q2G f lt R a c:=by
 unfold Q2G at *
 by_cases e1:f a=f b
 ·rw [if_neg (by simpa using e1)] at h1
  by_cases e2:f b=f c
  ·rw [if_neg (by simpa using e2)] at h2
   rw [if_neg (by simp [e1,e2])]
   exact hR _ _ _ h1 h2
  ·rw [if_pos e2] at h2
   rw [if_pos (by rw [e1]; exact e2),e1]
   exact h2
 ·rw [if_pos e1] at h1
  by_cases e2:f b=f c
  ·rw [if_pos (by rw [←e2]; exact e1),←e2]
   exact h1
  ·rw [if_pos e2] at h2
   obtain ⟨k1,k2⟩:=hlt _ _ _ e1 e2 h1 h2
   rw [if_pos k1]
   exact k2
theorem Q7E {f:Ev→α} {lt:α→α→Prop} {R:Ev→Ev→Prop} (htot:∀ x y:α,x≠y→lt x y∨lt y x) {a b:Ev} (h1:¬ Q2G f lt R a b) (h2:¬ Q2G f lt R b a):f a=f b∧¬ R a b∧¬ R b a:=by
 unfold Q2G at *
 by_cases e:f a=f b
 ·rw [if_neg (by simpa using e)] at h1
  rw [if_neg (by simp [e])] at h2
  exact ⟨e,h1,h2⟩
 ·rw [if_pos e] at h1
  rw [if_pos (Ne.symm e)] at h2
  rcases htot _ _ e with h | h
  ·exact absurd h h2
  ·exact absurd h h1
theorem Q5t {f:Ev→α} {lt:α→α→Prop} {R:Ev→Ev→Prop} (hR:∀ a,¬ R a a) (a:Ev):¬ Q2G f lt R a a:=by
 unfold Q2G
 rw [if_neg (by simp)]
 exact hR a
end
def Q4h (a b:Ev):Prop:=ltS b.alias a.alias=true
def Q7b:Ev→Ev→Prop:=Q2G Ev.text (fun x y=>ltS x y=true) Q4h
def Q6b:Ev→Ev→Prop:=Q2G Ev.port (fun x y=>x < y) Q7b
def Q4a:Ev→Ev→Prop:=Q2G Ev.addr (fun x y=>ltS x y=true) Q6b
def QeS (a b:Ev):Prop:=a.kind≠2∧Q4a a b
def Qa8 (a b:Ev):Prop:=if a.kind≠b.kind then a.kind=2 else QeS a b
def QfT:Ev→Ev→Prop:=Q2G Ev.inc (fun x y=>x < y) Qa8
theorem Q7c (a b:Ev):Q16 a b↔QfT a b:=by
 unfold Q16 QfT Q2G Qa8 QeS Q4a Q2G Q6b Q2G Q7b Q2G Q4h
 by_cases h1:a.inc=b.inc
 ·by_cases h2:a.kind=b.kind
  ·by_cases h3:b.kind=2
   ·simp [h1,h2,h3]
   ·simp [h1,h2,h3]
  ·simp [h1,h2]
 ·simp [h1]
theorem QcZ (x y z:ByteArray) (_:x≠y) (_:y≠z) (h1:ltS y x=true) (h2:ltS z y=true):x≠z∧ltS z x=true :=
 have h:=Q1U h2 h1
 ⟨fun e=>Q4w h e.symm,h⟩
theorem QcY (x y z:Int) (_:x≠y) (_:y≠z) (h1:y < x) (h2:z < y):x≠z∧z < x:=by omega
theorem QiG (x y:ByteArray) (h:x≠y):ltS x y=true∨ltS y x=true:=by
 cases e1:ltS x y with
 | true=>exact .inl rfl
 | false =>
  cases e2:ltS y x with
  | true=>exact .inr rfl
  | false=>exact absurd (Q1T e1 e2) h
theorem QiF (x y:Int) (h:x≠y):x < y∨y < x:=by omega
theorem QaW:∀ a b c,Q4h a b→Q4h b c→Q4h a c:=fun _ _ _ h1 h2=>Q1U h2 h1
theorem Qci:∀ a b c,Q7b a b→Q7b b c→Q7b a c:=fun _ _ _=>Q6x QcZ QaW
theorem Qch:∀ a b c,Q6b a b→Q6b b c→Q6b a c:=fun _ _ _=>Q6x QcY Qci
theorem Qcg:∀ a b c,Q4a a b→Q4a b c→Q4a a c:=fun _ _ _=>Q6x QcZ Qch
theorem Qds {a b:Ev} (h1:¬ Q16 a b) (h2:¬ Q16 b a):a.inc=b.inc∧(a.kind=b.kind∨(a.kind≠2∧b.kind≠2))∧(a.kind=b.kind→a.kind≠2→a.addr=b.addr∧a.port=b.port∧a.text=b.text∧a.alias=b.alias):=by
 rw [Q7c] at h1 h2
 obtain ⟨e1,k1,k2⟩:=Q7E (f:=Ev.inc) QiF h1 h2
 unfold Qa8 at k1 k2
 refine ⟨e1,?_,fun ek hk=>?_⟩
 ·by_cases e:a.kind=b.kind
  ·exact .inl e
  ·rw [if_pos e] at k1
   rw [if_pos (Ne.symm e)] at k2
   exact .inr ⟨k1,k2⟩
 ·rw [if_neg (by simpa using ek)] at k1
  rw [if_neg (by simp [ek])] at k2
  have g1:¬ Q4a a b:=fun h=>k1 ⟨hk,h⟩
  have g2:¬ Q4a b a:=fun h=>k2 ⟨by rw [←ek]; exact hk,h⟩
  obtain ⟨e2,g1,g2⟩:=Q7E (f:=Ev.addr) QiG g1 g2
  obtain ⟨e3,g1,g2⟩:=Q7E (f:=Ev.port) QiF g1 g2
  obtain ⟨e4,g1,g2⟩:=Q7E (f:=Ev.text) QiG g1 g2
  refine ⟨e2,e3,e4,Q1T ?_ ?_⟩
  ·unfold Q4h at g2; simpa using g2
  ·unfold Q4h at g1; simpa using g1
theorem Q9m {up:List Ev} {a:ByteArray}:∀ n i,n≤up.length→up.length - n≤i→i < up.length→(Q0s up i).alias=a→(∀ k,up.length - n≤k→k < i→(Q0s up k).alias≠a)→Q3J up a n=(Q0s up i).node
 | 0,i,_,h1,h2,_,_=>by omega
 | n+1,i,hn,h1,h2,h3,h4=>by
  unfold Q3J
  by_cases c:up.length - 1 - n=i
  ·rw [c,if_pos h3]
  ·rw [if_neg (h4 _ (by omega) (by omega))]
   exact Q9m n i (by omega) (by omega) h2 h3 fun k k1 k2=>h4 k (by omega) k2
structure En where
 key:ByteArray
 ev:Ev
def Q2T (l:List En):Prop:=l.Pairwise fun a b=>ltS b.key a.key=false
theorem Q7H {x y z:ByteArray} (h1:ltS y x=false) (h2:ltS z y=false):ltS z x=false:=by
 cases e:ltS z x with
 | false=>rfl
 | true =>
  cases e2:ltS x y with
  | true=>rw [Q1U e e2] at h2; cases h2
  | false=>rw [Q1T e2 h1] at e; rw [e] at h2; cases h2
def Q0h:List En→List En→List En
 | [],b=>b
 | x :: a,[]=>x :: a
 | x :: a,y :: b=>if ltS y.key x.key=true then y :: Q0h (x :: a) b else x :: Q0h a (y :: b)
theorem QgP (a:List En):Q0h a []=a:=by cases a <;> simp [Q0h]
theorem Q41 {x y:En} {a b:List En} (h:ltS y.key x.key=true):Q0h (x :: a) (y :: b)=y :: Q0h (x :: a) b:=by rw [Q0h,if_pos h]
theorem Q4x {x y:En} {a b:List En} (h:ltS y.key x.key=false):Q0h (x :: a) (y :: b)=x :: Q0h a (y :: b):=by rw [Q0h,if_neg (by rw [h]; simp)]
theorem Q6z:∀ {a b:List En} {e:En},e∈Q0h a b↔e∈a∨e∈b
 | [],b,e=>by simp [Q0h]
 | x :: a,[],e=>by simp [Q0h]
 | x :: a,y :: b,e=>by
  cases h:ltS y.key x.key with
  | true =>
   rw [Q41 h,List.mem_cons,Q6z,List.mem_cons (b:=y)]
   constructor
   ·rintro (h | h | h)
    ·exact .inr (.inl h)
    ·exact .inl h
    ·exact .inr (.inr h)
   ·rintro (h | h | h)
    ·exact .inr (.inl h)
    ·exact .inl h
    ·exact .inr (.inr h)
  | false =>
   rw [Q4x h,List.mem_cons,Q6z,List.mem_cons (b:=x) (l:=a)]
   constructor
   ·rintro (h | h | h)
    ·exact .inl (.inl h)
    ·exact .inl (.inr h)
    ·exact .inr h
   ·rintro ((h | h) | h)
    ·exact .inl h
    ·exact .inr (.inl h)
    ·exact .inr (.inr h)
termination_by a b=>a.length+b.length
theorem Q5u:∀ {a b:List En},Q2T a→Q2T b→Q2T (Q0h a b)
 | [],b,_,hb=>by simpa [Q0h] using hb
 | x :: a,[],ha,_=>by simpa [Q0h] using ha
 | x :: a,y :: b,ha,hb=>by
  obtain ⟨ha1,ha2⟩:=List.pairwise_cons.1 ha
  obtain ⟨hb1,hb2⟩:=List.pairwise_cons.1 hb
  cases h:ltS y.key x.key with
  | true =>
   rw [Q41 h]
   refine List.pairwise_cons.2 ⟨fun e he=>?_,Q5u ha hb2⟩
   rcases Q6z.1 he with he | he
   ·rcases List.mem_cons.1 he with rfl | he
    ·exact Q4k h
    ·exact Q7H (Q4k h) (ha1 e he)
   ·exact hb1 e he
  | false =>
   rw [Q4x h]
   refine List.pairwise_cons.2 ⟨fun e he=>?_,Q5u ha2 hb⟩
   rcases Q6z.1 he with he | he
   ·exact ha1 e he
   ·rcases List.mem_cons.1 he with rfl | he
    ·exact h
    ·exact Q7H h (hb1 e he)
termination_by a b=>a.length+b.length
theorem Q4g:∀ a b:List En,(Q0h a b).length=a.length+b.length
 | [],b=>by simp [Q0h]
 | x :: a,[]=>by simp [Q0h]
 | x :: a,y :: b=>by
  cases h:ltS y.key x.key with
  | true=>rw [Q41 h,List.length_cons,Q4g]; simp only [List.length_cons]; omega
  | false=>rw [Q4x h,List.length_cons,Q4g]; simp only [List.length_cons]; omega
termination_by a b=>a.length+b.length
def Q0G (k:ByteArray) (l:List En):List En:=l.filter fun e=>decide (e.key=k)
theorem Q9Z {k:ByteArray} {l:List En} (h:∀ e,e∈l→e.key≠k):Q0G k l=[]:=by
 unfold Q0G
 rw [List.filter_eq_nil_iff]
 intro e he
 simpa using h e he
theorem Q51 (k:ByteArray):∀ {a b:List En},Q2T a→Q2T b→Q0G k (Q0h a b)=Q0G k a++Q0G k b
 | [],b,_,_=>by simp [Q0h,Q0G]
 | x :: a,[],_,_=>by simp [Q0h,Q0G]
 | x :: a,y :: b,ha,hb=>by
  obtain ⟨ha1,ha2⟩:=List.pairwise_cons.1 ha
  obtain ⟨hb1,hb2⟩:=List.pairwise_cons.1 hb
  cases h:ltS y.key x.key with
  | true =>
   rw [Q41 h]
   by_cases c:y.key=k
   ·have e0:Q0G k (x :: a)=[]:=Q9Z fun e he ek=>by
     rcases List.mem_cons.1 he with rfl | he
     ·rw [c,←ek] at h; rw [Q1f] at h; cases h
     ·have:=ha1 e he
      rw [ek,←c] at this
      rw [h] at this; cases this
    have e1:Q0G k (y :: Q0h (x :: a) b)=y :: Q0G k (Q0h (x :: a) b):=by unfold Q0G; rw [List.filter_cons_of_pos (by simpa using c)]
    have e2:Q0G k (y :: b)=y :: Q0G k b:=by unfold Q0G; rw [List.filter_cons_of_pos (by simpa using c)]
    rw [e1,e2,Q51 k ha hb2,e0]
    rfl
   ·have e1:Q0G k (y :: Q0h (x :: a) b)=Q0G k (Q0h (x :: a) b):=by unfold Q0G; rw [List.filter_cons_of_neg (by simpa using c)]
    have e2:Q0G k (y :: b)=Q0G k b:=by unfold Q0G; rw [List.filter_cons_of_neg (by simpa using c)]
    rw [e1,e2,Q51 k ha hb2]
  | false =>
   rw [Q4x h]
   by_cases c:x.key=k
   ·have e1:Q0G k (x :: Q0h a (y :: b))=x :: Q0G k (Q0h a (y :: b)):=by unfold Q0G; rw [List.filter_cons_of_pos (by simpa using c)]
    have e2:Q0G k (x :: a)=x :: Q0G k a:=by unfold Q0G; rw [List.filter_cons_of_pos (by simpa using c)]
    rw [e1,e2,Q51 k ha2 hb]
    rfl
   ·have e1:Q0G k (x :: Q0h a (y :: b))=Q0G k (Q0h a (y :: b)):=by unfold Q0G; rw [List.filter_cons_of_neg (by simpa using c)]
    have e2:Q0G k (x :: a)=Q0G k a:=by unfold Q0G; rw [List.filter_cons_of_neg (by simpa using c)]
    rw [e1,e2,Q51 k ha2 hb]
termination_by a b=>a.length+b.length
def Q0g (l:List En):List En :=
 if _h:l.length < 2 then l else Q0h (Q0g (l.take (l.length / 2))) (Q0g (l.drop (l.length / 2)))
termination_by l.length
decreasing_by
 ·rw [List.length_take]; omega
 ·rw [List.length_drop]; omega
theorem Q80 {l:List En} (h:l.length < 2):Q0g l=l:=by rw [Q0g,dif_pos h]
theorem Q6F {l:List En} (h:¬ l.length < 2):Q0g l=Q0h (Q0g (l.take (l.length / 2))) (Q0g (l.drop (l.length / 2))):=by rw [Q0g,dif_neg h]
theorem Q0Y (l:List En):(Q0g l).length=l.length:=by
 by_cases h:l.length < 2
 ·rw [Q80 h]
 ·rw [Q6F h,Q4g,Q0Y,Q0Y,List.length_take,List.length_drop]
  omega
termination_by l.length
decreasing_by
 ·rw [List.length_take]; omega
 ·rw [List.length_drop]; omega
theorem Q2t (l:List En):Q2T (Q0g l):=by
 by_cases h:l.length < 2
 ·rw [Q80 h]
  match l,h with
  | [],_=>exact List.Pairwise.nil
  | [x],_=>exact List.pairwise_singleton _ _
 ·rw [Q6F h]
  exact Q5u (Q2t _) (Q2t _)
termination_by l.length
decreasing_by
 ·rw [List.length_take]; omega
 ·rw [List.length_drop]; omega
theorem Q81 (k:ByteArray) (l:List En):Q0G k (Q0g l)=Q0G k l:=by
 by_cases h:l.length < 2
 ·rw [Q80 h]
 ·rw [Q6F h,Q51 k (Q2t _) (Q2t _),Q81 k (l.take (l.length / 2)),Q81 k (l.drop (l.length / 2))]
  unfold Q0G
  rw [←List.filter_append,List.take_append_drop]
termination_by l.length
decreasing_by
 ·rw [List.length_take]; omega
 ·rw [List.length_drop]; omega
theorem Q45 {l:List En} {e:En}:e∈Q0g l↔e∈l:=by
 have h:∀ L:List En,e∈L↔e∈Q0G e.key L:=fun L=>by unfold Q0G; rw [List.mem_filter]; simp
 rw [h,Q81,←h]
def Q2X (a b:Ev):Prop:=if a.kind≠b.kind then a.kind=2 else Q4a a b
def Q19:Ev→Ev→Prop:=Q2G Ev.inc (fun x y=>x < y) Q2X
theorem QaX:∀ a b c,Q2X a b→Q2X b c→Q2X a c:=by
 intro a b c h1 h2
 unfold Q2X at *
 by_cases e1:a.kind=b.kind
 ·rw [if_neg (by simpa using e1)] at h1
  by_cases e2:b.kind=c.kind
  ·rw [if_neg (by simpa using e2)] at h2
   rw [if_neg (by simp [e1,e2])]
   exact Qcg _ _ _ h1 h2
  ·rw [if_pos e2] at h2
   rw [if_pos (by rw [e1]; exact e2),e1]
   exact h2
 ·rw [if_pos e1] at h1
  by_cases e2:b.kind=c.kind
  ·rw [if_pos (by rw [←e2]; exact e1)]
   exact h1
  ·rw [if_pos e2] at h2
   exact absurd (h1.trans h2.symm) e1
theorem QcE {a b c:Ev} (h1:Q19 a b) (h2:Q19 b c):Q19 a c:=Q6x QcY QaX h1 h2
theorem Q5i (a:Ev):¬ Q19 a a:=by
 refine Q5t (fun a=>?_) a
 unfold Q2X
 rw [if_neg (by simp)]
 exact Q5t (Q5t (Q5t (fun a h=>by unfold Q4h at h; rw [Q1f] at h; cases h))) a
theorem Q5M {a b:Ev} (h:Q16 a b):Q19 a b:=by
 rw [Q7c] at h
 unfold QfT Q2G at h
 unfold Q19 Q2G
 by_cases e:a.inc=b.inc
 ·rw [if_neg (by simpa using e)] at h ⊢
  unfold Qa8 at h
  unfold Q2X
  by_cases k:a.kind=b.kind
  ·rw [if_neg (by simpa using k)] at h ⊢
   exact h.2
  ·rw [if_pos k] at h ⊢
   exact h
 ·rw [if_pos e] at h ⊢
  exact h
open Classical in
noncomputable def Q1e (l:List Ev):List Ev:=l.filter fun e=>decide (Q2i e)
def Q1b (l:List Ev):List En:=l.map fun e=>⟨e.node,e⟩
open Classical in
noncomputable def Q1D (c:List Ev) (e:En):List Ev :=
 if h:c=[] then [e.ev]
 else if (c.getLast h).node≠e.key then c++[e.ev]
 else if Q19 e.ev (c.getLast h) then c.dropLast++[e.ev] else c
noncomputable def QaP (l:List En):List Ev:=l.foldl Q1D []
structure QbP (L:List En) (C:List Ev):Prop where
 rising:Q3H C
 sub:∀ c,c∈C→∃ e,e∈L∧e.ev=c
 top:∀ e,e∈L→∃ c,c∈C∧c.node=e.ev.node∧¬ Q19 e.ev c
theorem Qi0 {L:List En} {e:En} {C:List Ev} (hk:∀ x,x∈L++[e]→x.key=x.ev.node) (hs:Q2T (L++[e])) (h:QbP L C):QbP (L++[e]) (Q1D C e):=by
 have hke:e.key=e.ev.node:=hk e (by simp)
 have hle:∀ x,x∈L→ltS e.ev.node x.ev.node=false:=fun x hx=>by
  have:=(List.pairwise_append.1 hs).2.2 x hx e (by simp)
  rw [hke,hk x (by simp [hx])] at this
  exact this
 unfold Q1D
 by_cases hn:C=[]
 ·rw [dif_pos hn]
  subst hn
  refine ⟨List.pairwise_singleton _ _,fun c hc=>?_,fun x hx=>?_⟩
  ·rw [List.mem_singleton] at hc
   exact ⟨e,by simp,hc.symm⟩
  ·rcases List.mem_append.1 hx with hx | hx
   ·obtain ⟨c,hc,_⟩:=h.top x hx
    simp at hc
   ·rw [List.mem_singleton] at hx
    subst hx
    exact ⟨_,by simp,rfl,Q5i _⟩
 ·rw [dif_neg hn]
  obtain ⟨D,y,rfl⟩:∃ D y,C=D++[y]:=⟨C.dropLast,C.getLast hn,(List.dropLast_concat_getLast hn).symm⟩
  rw [List.getLast_concat,List.dropLast_concat]
  obtain ⟨hD,_,hDy⟩:=List.pairwise_append.1 h.rising
  have hy:∃ x,x∈L∧x.ev=y:=h.sub y (by simp)
  have hye:ltS e.ev.node y.node=false:=by
   obtain ⟨x,hx,rfl⟩:=hy
   exact hle x hx
  by_cases c1:y.node=e.key
  ·rw [if_neg (by simpa using c1)]
   by_cases c2:Q19 e.ev y
   ·rw [if_pos c2]
    refine ⟨List.pairwise_append.2 ⟨hD,List.pairwise_singleton _ _,fun a ha b hb=>?_⟩,fun c hc=>?_,fun x hx=>?_⟩
    ·rw [List.mem_singleton] at hb
     subst hb
     rw [←hke,←c1]
     exact hDy a ha y (by simp)
    ·rcases List.mem_append.1 hc with hc | hc
     ·obtain ⟨x,hx,hxe⟩:=h.sub c (by simp [hc])
      exact ⟨x,by simp [hx],hxe⟩
     ·rw [List.mem_singleton] at hc
      exact ⟨e,by simp,hc.symm⟩
    ·rcases List.mem_append.1 hx with hx | hx
     ·obtain ⟨c,hc,h1,h2⟩:=h.top x hx
      rcases List.mem_append.1 hc with hc | hc
      ·exact ⟨c,by simp [hc],h1,h2⟩
      ·rw [List.mem_singleton] at hc
       subst hc
       exact ⟨e.ev,by simp,by rw [←hke,←c1,h1],fun hb=>h2 (QcE hb c2)⟩
     ·rw [List.mem_singleton] at hx
      subst hx
      exact ⟨_,by simp,rfl,Q5i _⟩
   ·rw [if_neg c2]
    refine ⟨h.rising,fun c hc=>?_,fun x hx=>?_⟩
    ·obtain ⟨x,hx,hxe⟩:=h.sub c hc
     exact ⟨x,by simp [hx],hxe⟩
    ·rcases List.mem_append.1 hx with hx | hx
     ·exact h.top x hx
     ·rw [List.mem_singleton] at hx
      subst hx
      exact ⟨y,by simp,c1.trans hke,c2⟩
  ·rw [if_pos c1]
   have hlt:ltS y.node e.ev.node=true:=by
    cases q:ltS y.node e.ev.node with
    | true=>rfl
    | false=>exact absurd ((Q1T q hye).trans hke.symm) c1
   refine ⟨List.pairwise_append.2 ⟨h.rising,List.pairwise_singleton _ _,fun a ha b hb=>?_⟩,fun c hc=>?_,fun x hx=>?_⟩
   ·rw [List.mem_singleton] at hb
    subst hb
    rcases List.mem_append.1 ha with ha | ha
    ·exact Q1U (hDy a ha y (by simp)) hlt
    ·rw [List.mem_singleton] at ha
     subst ha
     exact hlt
   ·rcases List.mem_append.1 hc with hc | hc
    ·obtain ⟨x,hx,hxe⟩:=h.sub c hc
     exact ⟨x,by simp [hx],hxe⟩
    ·rw [List.mem_singleton] at hc
     exact ⟨e,by simp,hc.symm⟩
   ·rcases List.mem_append.1 hx with hx | hx
    ·obtain ⟨c,hc,h1,h2⟩:=h.top x hx
     exact ⟨c,List.mem_append_left _ hc,h1,h2⟩
    ·rw [List.mem_singleton] at hx
     subst hx
     exact ⟨_,by simp,rfl,Q5i _⟩
theorem Qfx {L:List En} (hk:∀ x,x∈L→x.key=x.ev.node) (hs:Q2T L):∀ n,n≤L.length→QbP (L.take n) ((L.take n).foldl Q1D [])
 | 0,_=>⟨by simp [Q3H],fun c hc=>by simp at hc,fun x hx=>by simp at hx⟩
 | n+1,hn=>by
  have ih:=Qfx hk hs n (by omega)
  have e:L.take (n+1)=L.take n++[L[n]]:=List.take_succ_eq_append_getElem (by omega)
  rw [e,List.foldl_append]
  rw [List.foldl_cons,List.foldl_nil]
  have hsub:(L.take n++[L[n]]).Sublist L:=by rw [←e]; exact List.take_sublist _ _
  exact Qi0 (fun x hx=>hk x (hsub.subset hx)) (hs.sublist hsub) ih
theorem Qk0 {L:List En} (hk:∀ x,x∈L→x.key=x.ev.node) (hs:Q2T L):QbP L (QaP L):=by
 have h:=Qfx hk hs L.length (Nat.le_refl _)
 rw [List.take_length] at h
 exact h
noncomputable def upM (l:List Ev):List Ev:=(QaP (Q0g (Q1b (Q1e l)))).filter fun e=>decide (e.kind=1)
open Classical in
theorem Q7C {l:List Ev} {e:Ev}:e∈Q1e l↔e∈l∧Q2i e:=by
 unfold Q1e
 rw [List.mem_filter,decide_eq_true_eq]
theorem Qib {l:List Ev} {e:Ev} (h:e∈l):∃ i,i < l.length∧Q0s l i=e∧∀ k,k < i→Q0s l k≠e:=by
 have:∀ n,n≤l.length→(∃ i,i < n∧Q0s l i=e)→∃ i,i < n∧Q0s l i=e∧∀ k,k < i→Q0s l k≠e:=by
  intro n
  induction n with
  | zero=>rintro _ ⟨i,hi,_⟩; omega
  | succ n ih =>
   rintro hn ⟨i,hi,he⟩
   by_cases c:∃ i,i < n∧Q0s l i=e
   ·obtain ⟨j,hj,h1,h2⟩:=ih (by omega) c
    exact ⟨j,by omega,h1,h2⟩
   ·have:i=n:=by
     rcases Nat.lt_or_ge i n with q | q
     ·exact absurd ⟨i,q,he⟩ c
     ·omega
    subst this
    exact ⟨i,by omega,he,fun k hk hek=>c ⟨k,hk,hek⟩⟩
 obtain ⟨i,hi,he⟩:=Q64 h
 exact this l.length (Nat.le_refl _) ⟨i,hi,he⟩
theorem QfU {a b:Ev} (hn:a.node=b.node) (ha:Q2i a) (hb:Q2i b) (hk:a.kind=1) (h1:¬ Q16 a b) (h2:¬ Q16 b a):a=b:=by
 obtain ⟨e1,e2,e3⟩:=Qds h1 h2
 have hk2:b.kind=1:=by
  rcases e2 with e2 | e2
  ·rw [←e2,hk]
  ·rcases hb.2.2.2 with h | h
   ·exact absurd h e2.2
   ·exact h.1
 obtain ⟨f1,f2,f3,f4⟩:=e3 (hk.trans hk2.symm) (by rw [hk]; decide)
 obtain ⟨k,n,i,a,p,t,al⟩:=a
 obtain ⟨k',n',i',a',p',t',al'⟩:=b
 simp only at *
 subst hn e1 hk hk2 f1 f2 f3 f4
 rfl
theorem Q5H (l:List Ev):upM l=upP l:=by
 obtain ⟨r1,m1⟩:=Q6k l
 have hk:∀ x,x∈Q0g (Q1b (Q1e l))→x.key=x.ev.node:=fun x hx=>by
  have:=Q45.1 hx
  unfold Q1b at this
  obtain ⟨e,_,rfl⟩:=List.mem_map.1 this
  rfl
 have hc:=Qk0 hk (Q2t _)
 have hm:∀ e,e∈Q1e l↔∃ x,x∈Q0g (Q1b (Q1e l))∧x.ev=e:=fun e=>by
  constructor
  ·intro h
   exact ⟨⟨e.node,e⟩,Q45.2 (List.mem_map.2 ⟨e,h,rfl⟩),rfl⟩
  ·rintro ⟨x,hx,rfl⟩
   obtain ⟨e,he,rfl⟩:=List.mem_map.1 (Q45.1 hx)
   exact he
 refine QbD (hc.rising.filter _) r1 fun e=>?_
 rw [m1]
 unfold upM
 rw [List.mem_filter,decide_eq_true_eq]
 constructor
 ·rintro ⟨he,hk1⟩
  have hg:=(hm e).2 (hc.sub e he)
  obtain ⟨hl,hgood⟩:=Q7C.1 hg
  have hmax:∀ x,x∈l→Q2i x→x.node=e.node→¬ Q19 x e:=fun x hx hgx hxn hb=>by
   obtain ⟨z,hz,hze⟩:=(hm x).1 (Q7C.2 ⟨hx,hgx⟩)
   obtain ⟨c,hc1,hc2,hc3⟩:=hc.top z hz
   rw [hze] at hc2 hc3
   have:c=e:=by
    rcases Classical.em (c=e) with h | h
    ·exact h
    ·have hne:c.node≠e.node:=fun hh=>by
      obtain ⟨i,hi,rfl⟩:=List.mem_iff_getElem.1 hc1
      obtain ⟨j,hj,rfl⟩:=List.mem_iff_getElem.1 he
      have hp:=List.pairwise_iff_getElem.1 hc.rising
      rcases Nat.lt_trichotomy i j with q | q | q
      ·exact Q4w (hp i j hi hj q) hh
      ·subst q; exact h rfl
      ·exact Q4w (hp j i hj hi q) hh.symm
     exact absurd (hc2.trans hxn) hne
   subst this
   exact hc3 hb
  obtain ⟨i,hi,hie,hfirst⟩:=Qib hl
  refine ⟨i,hi,⟨by rw [hie]; exact hgood,fun k hk hbt=>?_⟩,by rw [hie]; exact hk1,hie.symm⟩
  obtain ⟨b1,b2,b3⟩:=hbt
  rw [hie] at b2 b3
  have hkm:Q0s l k∈l:=Q71 hk
  have hnb:=hmax _ hkm b1 b2
  have hnr:¬ Q16 (Q0s l k) e:=fun h=>hnb (Q5M h)
  rcases b3 with b3 | ⟨b3,b4⟩
  ·exact hnr b3
  ·exact hfirst k b4 (QfU b2.symm hgood b1 hk1 b3 hnr).symm
 ·rintro ⟨i,hi,hci,hk1,rfl⟩
  obtain ⟨z,hz,hze⟩:=(hm _).1 (Q7C.2 ⟨Q71 hi,hci.1⟩)
  obtain ⟨c,hc1,hc2,hc3⟩:=hc.top z hz
  rw [hze] at hc2 hc3
  obtain ⟨hcl,hcg⟩:=Q7C.1 ((hm c).2 (hc.sub c hc1))
  obtain ⟨k,hk,rfl⟩:=Q64 hcl
  have h1:¬ Q16 (Q0s l k) (Q0s l i):=fun h=>hci.2 k hk ⟨hcg,hc2,.inl h⟩
  have h2:¬ Q16 (Q0s l i) (Q0s l k):=fun h=>hc3 (Q5M h)
  have:=QfU hc2.symm hci.1 hcg hk1 h2 h1
  rw [this]
  exact ⟨hc1,by rw [←this]; exact hk1⟩
def Q8i (l:List Ev):Int:=l.foldl (fun m e=>if m < e.inc then e.inc else m) 0
open Classical in
theorem Q9L (l:List Ev):Q8i (Q1e l)=Q2S l l.length:=by
 have h:∀ n,n≤l.length→Q8i (Q1e (l.take n))=Q2S l n:=by
  intro n
  induction n with
  | zero=>intro _; rfl
  | succ n ih =>
   intro hn
   have e:l.take (n+1)=l.take n++[Q0s l n]:=by rw [List.take_succ_eq_append_getElem (by omega),Q4c (by omega)]
   have e2:Q1e (l.take n++[Q0s l n])=Q1e (l.take n)++Q1e [Q0s l n]:=by unfold Q1e; rw [List.filter_append]
   unfold Q2S
   rw [e,e2]
   unfold Q8i at ih ⊢
   rw [List.foldl_append,ih (by omega)]
   by_cases c:Q2i (Q0s l n)
   ·have e3:Q1e [Q0s l n]=[Q0s l n]:=by unfold Q1e; rw [List.filter_cons_of_pos (by simpa using c)]; rfl
    rw [e3]
    by_cases c2:Q2S l n < (Q0s l n).inc
    ·rw [if_pos ⟨c,c2⟩]; simp [c2]
    ·rw [if_neg (fun h=>c2 h.2)]; simp [c2]
   ·have e3:Q1e [Q0s l n]=[]:=by unfold Q1e; rw [List.filter_cons_of_neg (by simpa using c)]; rfl
    rw [e3,if_neg (fun h=>c h.1)]
    rfl
 have:=h l.length (Nat.le_refl _)
 rw [List.take_length] at this
 exact this
def Q0d (up:List Ev):List En:=(up.filter fun e=>decide (e.alias≠⟨#[]⟩)).map fun e=>⟨e.alias,e⟩
def Q9N (up:List Ev) (a:ByteArray):Prop:=∃ u,u∈up∧u.node=a
def Qmv (L:List En) (i:Nat):Prop:=∀ h:i < L.length,0 < i→(L[i - 1]'(by omega)).key≠L[i].key
open Classical in
noncomputable def Q2v (up:List Ev) (L:List En):Nat→List Ev
 | 0=>[]
 | i+1=>if h:i < L.length then
   (if (∃ _:0 < i,(L[i - 1]'(by omega)).key=L[i].key)∨Q9N up L[i].key then Q2v up L i else Q2v up L i++[L[i].ev]) else Q2v up L i
def Q5r (L:List En):Nat→List ByteArray
 | 0=>[]
 | i+1=>if h:i < L.length then
   (if (∃ _:0 < i,(L[i - 1]'(by omega)).key=L[i].key) then Q5r L i else Q5r L i++[L[i].key]) else Q5r L i
theorem QcT {L:List En} (hs:Q2T L):∀ n,n≤L.length→Q7p (Q5r L n)∧(∀ k,k∈Q5r L n↔∃ (i:Nat) (h:i < L.length),i < n∧L[i].key=k)
 | 0,_=>⟨List.Pairwise.nil,fun k=>by simp [Q5r]⟩
 | n+1,hn=>by
  obtain ⟨h1,h2⟩:=QcT hs n (by omega)
  have hp:=List.pairwise_iff_getElem.1 hs
  unfold Q5r
  rw [dif_pos (by omega)]
  by_cases c:∃ _:0 < n,(L[n - 1]'(by omega)).key=L[n].key
  ·rw [if_pos c]
   obtain ⟨c0,c1⟩:=c
   refine ⟨h1,fun k=>?_⟩
   rw [h2]
   constructor
   ·rintro ⟨i,hi,h3,h4⟩
    exact ⟨i,hi,by omega,h4⟩
   ·rintro ⟨i,hi,h3,h4⟩
    rcases Nat.lt_or_ge i n with q | q
    ·exact ⟨i,hi,q,h4⟩
    ·have:i=n:=by omega
     subst this
     exact ⟨i - 1,by omega,by omega,c1.trans h4⟩
  ·rw [if_neg c]
   have hlt:∀ i (hi:i < n),ltS (L[i]'(by omega)).key L[n].key=true:=by
    intro i hi
    have hn0:0 < n:=by omega
    have a1:ltS (L[n - 1]'(by omega)).key L[n].key=true:=by
     cases q:ltS (L[n - 1]'(by omega)).key L[n].key with
     | true=>rfl
     | false=>exact absurd ⟨hn0,Q1T q (hp (n - 1) n (by omega) (by omega) (by omega))⟩ c
    rcases Nat.lt_or_ge i (n - 1) with q | q
    ·exact Q8n (hp i (n - 1) (by omega) (by omega) q) a1
    ·have:i=n - 1:=by omega
     subst this
     exact a1
   refine ⟨List.pairwise_append.2 ⟨h1,List.pairwise_singleton _ _,fun a ha b hb=>?_⟩,fun k=>?_⟩
   ·rw [List.mem_singleton] at hb
    subst hb
    obtain ⟨i,hi,h3,rfl⟩:=(h2 a).1 ha
    exact hlt i h3
   ·rw [List.mem_append,h2,List.mem_singleton]
    constructor
    ·rintro (⟨i,hi,h3,h4⟩ | rfl)
     ·exact ⟨i,hi,by omega,h4⟩
     ·exact ⟨n,by omega,by omega,rfl⟩
    ·rintro ⟨i,hi,h3,h4⟩
     rcases Nat.lt_or_ge i n with q | q
     ·exact .inl ⟨i,hi,q,h4⟩
     ·have:i=n:=by omega
      subst this
      exact .inr h4.symm
def cnR (e:Ev):RI:=Q04 (Qj e.alias) 5 (Qj e.node)
theorem Qdb {L:List En} (hs:Q2T L) {i:Nat} (h:i < L.length) (hf:¬ ∃ _:0 < i,(L[i - 1]'(by omega)).key=L[i].key):(Q0G L[i].key L).head? = some L[i]:=by
 have hp:=List.pairwise_iff_getElem.1 hs
 have e:L=L.take i++L[i] :: L.drop (i+1):=by rw [List.getElem_cons_drop,List.take_append_drop]
 have e0:Q0G L[i].key (L.take i)=[]:=Q9Z fun x hx hk=>by
  obtain ⟨j,hj,rfl⟩:=List.mem_iff_getElem.1 hx
  rw [List.length_take] at hj
  rw [List.getElem_take] at hk
  have hi0:0 < i:=by omega
  refine hf ⟨hi0,?_⟩
  have a1:=hp (i - 1) i (by omega) h (by omega)
  rcases Nat.lt_or_ge j (i - 1) with q | q
  ·have a2:=hp j (i - 1) (by omega) (by omega) q
   rw [hk] at a2
   exact Q1T a2 a1
  ·have:j=i - 1:=by omega
   subst this
   exact hk
 have e1:Q0G L[i].key L=Q0G L[i].key (L.take i)++Q0G L[i].key (L[i] :: L.drop (i+1)):=by
  have:∀ k,Q0G k L=Q0G k (L.take i)++Q0G k (L[i] :: L.drop (i+1)):=fun k=>by
   conv=>lhs; rw [e]
   unfold Q0G
   rw [List.filter_append]
  exact this _
 rw [e1,e0]
 unfold Q0G
 rw [List.filter_cons_of_pos (by simp)]
 rfl
theorem QhH {up:List Ev} {a:ByteArray} (ha:a≠⟨#[]⟩) {e:En} (h:(Q0G a (Q0d up)).head? = some e):∃ i,i < up.length∧Q0s up i=e.ev∧(Q0s up i).alias=a∧∀ k,k < i→(Q0s up k).alias≠a:=by
 induction up with
 | nil=>simp [Q0G,Q0d] at h
 | cons x up ih =>
  by_cases c:x.alias=a
  ·have e1:Q0d (x :: up)=⟨x.alias,x⟩ :: Q0d up:=by
    unfold Q0d
    rw [List.filter_cons_of_pos (by rw [c]; simpa using ha)]
    rfl
   rw [e1] at h
   unfold Q0G at h
   rw [List.filter_cons_of_pos (by simpa using c)] at h
   simp only [List.head?_cons,Option.some.injEq] at h
   subst h
   exact ⟨0,by simp,rfl,c,fun k hk=>by omega⟩
  ·have h':(Q0G a (Q0d up)).head? = some e:=by
    by_cases c2:x.alias=⟨#[]⟩
    ·have e1:Q0d (x :: up)=Q0d up:=by
      unfold Q0d
      rw [List.filter_cons_of_neg (by simpa using c2)]
     rw [e1] at h
     exact h
    ·have e1:Q0d (x :: up)=⟨x.alias,x⟩ :: Q0d up:=by
      unfold Q0d
      rw [List.filter_cons_of_pos (by simpa using c2)]
      rfl
     rw [e1] at h
     unfold Q0G at h
     rw [List.filter_cons_of_neg (by simpa using c)] at h
     exact h
   obtain ⟨i,h1,h2,h3,h4⟩:=ih h'
   refine ⟨i+1,by simpa using h1,h2,h3,fun k hk=>?_⟩
   cases k with
   | zero=>exact c
   | succ k=>exact h4 k (by omega)
theorem Qcy {up:List Ev} (hn:∀ e,e∈up→e.node≠⟨#[]⟩) {L:List En} (hs:Q2T L) (hmem0:∀ e,e∈L→e∈Q0d up) (hkey0:∀ k,Q0G k L=Q0G k (Q0d up)):∀ n,n≤L.length→(Q2v up L n).map cnR=(Q5r L n).filterMap (QbV up)
 | 0,_=>rfl
 | n+1,hn'=>by
  have ih:=Qcy hn hs hmem0 hkey0 n (by omega)
  have hmem:L[n]∈Q0d up:=hmem0 _ (List.getElem_mem _)
  have hkey:=hkey0 L[n].key
  have hfirst:=Qdb hs (i:=n) (by omega)
  unfold Q2v Q5r
  rw [dif_pos (by omega),dif_pos (by omega)]
  by_cases c:∃ _:0 < n,(L[n - 1]'(by omega)).key=L[n].key
  ·rw [if_pos (.inl c),if_pos c]
   exact ih
  ·rw [if_neg c,List.filterMap_append,←ih]
   have hh:=hfirst c
   rw [hkey] at hh
   obtain ⟨e0,he0,hee⟩:=List.mem_map.1 hmem
   obtain ⟨_,hne⟩:=List.mem_filter.1 he0
   have ha:L[n].key≠⟨#[]⟩:=by rw [←hee]; simpa using hne
   obtain ⟨i,h1,h2,h3,h4⟩:=QhH ha hh
   have hb:Q3J up L[n].key up.length=L[n].ev.node:=by
    rw [Q9m up.length i (Nat.le_refl _) (by omega) h1 h3 fun k _ hk=>h4 k hk,h2]
   by_cases cu:Q9N up L[n].key
   ·rw [if_pos (.inr cu)]
    have:QbV up L[n].key=none:=by
     unfold QbV Q2L
     rw [if_pos]
     rw [if_pos]
     obtain ⟨u,hu,hun⟩:=cu
     obtain ⟨j,hj,rfl⟩:=Q64 hu
     exact ⟨j,hj,hun⟩
    rw [List.filterMap_cons,this]
    simp
   ·rw [if_neg (fun h=>h.elim c cu)]
    have hnb:¬ ∃ i,i < up.length∧(Q0s up i).node=L[n].key:=fun ⟨j,hj,hjn⟩=>cu ⟨_,Q71 hj,hjn⟩
    have hnode:L[n].ev.node≠⟨#[]⟩:=by rw [←h2]; exact hn _ (Q71 h1)
    have:QbV up L[n].key=some (cnR L[n].ev):=by
     unfold QbV Q2L
     rw [if_neg hnb,hb,if_neg hnode]
     unfold cnR
     rw [←h2,h3]
    rw [List.filterMap_cons,this,List.map_append]
    simp
theorem Qix {up:List Ev} (k:ByteArray):(∃ (i:Nat) (h:i < (Q0g (Q0d up)).length),i < (Q0g (Q0d up)).length∧(Q0g (Q0d up))[i].key=k)↔∃ e,e∈up∧e.alias=k∧k≠⟨#[]⟩:=by
 constructor
 ·rintro ⟨i,h,_,rfl⟩
  obtain ⟨e,he,hee⟩:=List.mem_map.1 (Q45.1 (List.getElem_mem h))
  obtain ⟨h1,h2⟩:=List.mem_filter.1 he
  rw [←hee]
  exact ⟨e,h1,rfl,by simpa using h2⟩
 ·rintro ⟨e,he,rfl,hne⟩
  have:(⟨e.alias,e⟩:En)∈Q0g (Q0d up):=Q45.2 (List.mem_map.2 ⟨e,List.mem_filter.2 ⟨he,by simpa using hne⟩,rfl⟩)
  obtain ⟨i,hi,hie⟩:=List.mem_iff_getElem.1 this
  exact ⟨i,hi,hi,by rw [hie]⟩
theorem QhJ {up:List Ev} (hn:∀ e,e∈up→e.node≠⟨#[]⟩):(Q2v up (Q0g (Q0d up)) (Q0g (Q0d up)).length).map cnR=(Q1Z up up.length).1:=by
 rw [Qcy hn (Q2t _) (fun e he=>Q45.1 he) (fun k=>Q81 k _) _ (Nat.le_refl _)]
 obtain ⟨h1,h2⟩:=QcT (Q2t (Q0d up)) _ (Nat.le_refl _)
 exact (QhL up _ h1 fun a=>(h2 a).trans (Qix a)).symm
noncomputable def Qg (l:List Ev):List RI :=
 [Q04 Qm 6 (Q5U (Q8i (Q1e l)).toNat),Q04 Qm 2 Q0D]++(upM l).flatMap Q0y++(Q2v (upM l) (Q0g (Q0d (upM l))) (Q0g (Q0d (upM l))).length).map cnR++(upM l).map Q1q
theorem Q3x (l:List Ev):Qg l=Q0I l:=by
 have hn:∀ e,e∈upP l→e.node≠⟨#[]⟩:=fun e he=>by
  obtain ⟨i,_,ci,_,rfl⟩:=((Q6k l).2 e).1 he
  exact QcV ci.1.1
 unfold Qg Q0I
 rw [Q5H,Q9L,QhJ hn]
end Go.Proofs.YtdhobdmhnocbgabGreatDoor
