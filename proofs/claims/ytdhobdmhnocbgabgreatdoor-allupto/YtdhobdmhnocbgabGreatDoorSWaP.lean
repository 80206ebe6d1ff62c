import Derived.Test.YtdhobdmhnocbgabGreatDoorSSiW
import Derived.Test.YtdhobdmhnocbgabGreatDoorSNwC
import Derived.Test.YtdhobdmhnocbgabGreatDoorSQuE
namespace Go.Proofs.YtdhobdmhnocbgabGreatDoor
open Go.RowKit Zr
theorem Q96 {up:List Ev}:∀ {n:Nat} {e:Ev},e∈Q2v up (Q0g (Q0d up)) n→e∈up∧e.alias≠⟨#[]⟩∧¬ Q9N up e.alias
 | 0,e,h=>by simp [Q2v] at h
 | n+1,e,h=>by
  unfold Q2v at h
  split at h
  ·next hn =>
   split at h
   ·exact Q96 h
   ·next hc =>
    rcases List.mem_append.1 h with h | h
    ·exact Q96 h
    ·rw [List.mem_singleton] at h
     have hn2:¬ Q9N up (Q0g (Q0d up))[n].key:=fun q=>hc (.inr q)
     obtain ⟨y,hy,he⟩:=List.mem_map.1 (Q45.1 (List.getElem_mem hn))
     rw [←he] at hn2 h
     simp only at hn2 h
     subst h
     obtain ⟨h1,h2⟩:=List.mem_filter.1 hy
     exact ⟨h1,of_decide_eq_true h2,hn2⟩
  ·exact Q96 h
noncomputable def Qgi (l:List Ev):List Ev:=Q2v (upM l) (Q0g (Q0d (upM l))) (Q0g (Q0d (upM l))).length
def inZ (l:List Ev) (x:RI):Prop :=
 ((∃ k:Nat,x=Q04 Qm 6 (Q5U k))∨x=Q04 Qm 2 Q0D) ∨
 (∃ u,u∈upM l∧(x=Q04 (Qj u.node) (Q0N u) u.addr∨(u.text≠⟨#[]⟩∧x=Q04 (Qj u.node) 16 (one u.text.size++u.text)))) ∨
 (∃ u,u∈upM l∧u.alias≠⟨#[]⟩∧¬ Q9N (upM l) u.alias∧x=cnR u) ∨
 ∃ u,u∈upM l∧x=Q1q u
theorem QiO {u:Ev} {x:RI} (h:x∈Q0y u):x=Q04 (Qj u.node) (Q0N u) u.addr∨(u.text≠⟨#[]⟩∧x=Q04 (Qj u.node) 16 (one u.text.size++u.text)):=by
 unfold Q0y at h
 rcases List.mem_cons.1 h with h | h
 ·exact .inl h
 ·split at h
  ·simp at h
  ·next ht =>
   rw [List.mem_singleton] at h
   exact .inr ⟨ht,h⟩
theorem QaH {l:List Ev} {x:RI} (h:x∈Qg l):inZ l x:=by
 unfold Qg at h
 rcases List.mem_append.1 h with h | h
 ·rcases List.mem_append.1 h with h | h
  ·rcases List.mem_append.1 h with h | h
   ·simp only [List.mem_cons,List.mem_nil_iff,or_false] at h
    rcases h with h | h
    ·exact .inl (.inl ⟨_,h⟩)
    ·exact .inl (.inr h)
   ·obtain ⟨u,hu,hx⟩:=List.mem_flatMap.1 h
    exact .inr (.inl ⟨u,hu,QiO hx⟩)
  ·obtain ⟨u,hu,rfl⟩:=List.mem_map.1 h
   obtain ⟨h1,h2,h3⟩:=Q96 hu
   exact .inr (.inr (.inl ⟨u,h1,h2,h3,rfl⟩))
 ·obtain ⟨u,hu,rfl⟩:=List.mem_map.1 h
  exact .inr (.inr (.inr ⟨u,hu,rfl⟩))
theorem Q9g {l:List Ev} {u:Ev} (h:u∈upM l):Q2A u.node∧Q5h u:=by
 obtain ⟨hg,hk⟩:=Qjy h
 obtain ⟨h1,_,_,h4⟩:=hg
 rcases h4 with h4 | ⟨_,h5⟩
 ·rw [hk] at h4; exact absurd h4 (by decide)
 ·exact ⟨h1,h5⟩
theorem Q4A {n d:ByteArray} (t:Nat) (hn:Q09 n=true) (ht:t≤65535) (hd:Q1Y t d):Q2l (Q04 n (t:Int) d) :=
 ⟨hn,⟨by show (0:Int)≤(t:Int); omega,by show (t:Int)≤65535; omega⟩,⟨by show (0:Int)≤1; decide,by show (1:Int)≤65535; decide⟩,⟨by show (0:Int)≤30; decide,by show (30:Int)≤4294967295; decide⟩,by show Q1Y (t:Int).toNat d; rw [Int.toNat_natCast]; exact hd⟩
theorem Q7Y:Q09 Q0D=true:=by kernel_rfl
theorem Qcx:Q09 Q89=true:=by kernel_rfl
theorem Qjg (k:Nat):Q1Y 6 (Q5U k):=by
 refine (Q6I _).2 ⟨Q0D,Q89,q4 k++(q4 3600++(q4 600++(q4 86400++q4 30))),?_,Q7Y,Qcx,?_⟩
 ·unfold Q5U
  simp only [Q07]
 ·simp only [ByteArray.size_append,Q2C]
theorem Qhp (s:ByteArray) (h:s.size≤60):Q1Y 16 (one s.size++s):=by
 have hz:(one s.size++s).size=1+s.size:=by rw [ByteArray.size_append]; rfl
 refine (Q3S _ 16 (by omega) (by omega)).2 ⟨by omega,?_⟩
 have h1:=Qhg ⟨#[]⟩ s s.size (by omega) rfl (by decide)
 rw [empty_append] at h1
 show ((one s.size++s).size != 0 && Q2Q (one s.size++s) 0 1)=true
 have h2:Q2Q (one s.size++s) 0 1=true:=h1
 rw [h2,Bool.and_true,bne_iff_ne]
 omega
theorem Qjh (p:Nat) (s:ByteArray) (h1:1≤s.size) (h2:s.size≤15):Q1Y 33 (q4 0++wd p++Qj s):=by
 have hs1:(q4 0++wd p).size=6:=by rw [ByteArray.size_append,Q2C,Q00]
 have hu:=Q46 h1 h2
 have hz:(q4 0++wd p++Qj s).size=6+(Qj s).size:=by rw [ByteArray.size_append,hs1]
 refine (Q3S _ 33 (by omega) (by omega)).2 ⟨by omega,?_⟩
 show Qav _=true
 rw [QbK _ (by omega)]
 have hx:=Q5m (q4 0++wd p) (Qj s)
 rw [hs1] at hx
 rw [hx]
 exact hu.1
theorem Qgf {l:List Ev} {x:RI} (h:x∈Qg l):Q2l x∧x.ty≠41∧x.name.size+10+x.data.size≤97:=by
 rcases QaH h with (⟨k,rfl⟩ | rfl) | ⟨u,hu,rfl | ⟨ht,rfl⟩⟩ | ⟨u,hu,ha,_,rfl⟩ | ⟨u,hu,rfl⟩
 ·refine ⟨Q4A 6 Q5z (by omega) (Qjg k),by show (6:Int)≠41; decide,?_⟩
  show 10+10+(Q5U k).size≤97
  unfold Q5U
  simp only [ByteArray.size_append,Q2C]
  show 10+10+(13+16+4+4+4+4+4)≤97
  omega
 ·exact ⟨Q4A 2 Q5z (by omega) ((Q5c _ 2 (by omega)).2 Q7Y),by show (2:Int)≠41; decide,by show 10+10+13≤97; omega⟩
 ·obtain ⟨hn,ha⟩:=Q9g hu
  obtain ⟨u1,u2⟩:=Q46 hn.2.1 hn.2.2
  have us:=Q3g u.node
  have hn2:=hn.2.2
  rcases ha.2.1 with h4 | h4
  ·have hk:Q0N u=((1:Nat):Int):=by unfold Q0N; rw [if_neg (by omega)]; rfl
   rw [hk]
   refine ⟨Q4A 1 u1 (by omega) ((Q3S _ 1 (by omega) (by omega)).2 ⟨by omega,by show (u.addr.size == 4)=true; rw [h4]; rfl⟩),by show (1:Int)≠41; decide,?_⟩
   show (Qj u.node).size+10+u.addr.size≤97
   omega
  ·have hk:Q0N u=((28:Nat):Int):=by unfold Q0N; rw [if_pos h4]; rfl
   rw [hk]
   refine ⟨Q4A 28 u1 (by omega) ((Q3S _ 28 (by omega) (by omega)).2 ⟨by omega,by show (u.addr.size == 16)=true; rw [h4]; rfl⟩),by show (28:Int)≠41; decide,?_⟩
   show (Qj u.node).size+10+u.addr.size≤97
   omega
 ·obtain ⟨hn,ha⟩:=Q9g hu
  obtain ⟨u1,u2⟩:=Q46 hn.2.1 hn.2.2
  have us:=Q3g u.node
  have hn2:=hn.2.2
  have ht2:=ha.2.2.2.2
  refine ⟨Q4A 16 u1 (by omega) (Qhp _ ht2),by show (16:Int)≠41; decide,?_⟩
  show (Qj u.node).size+10+(one u.text.size++u.text).size≤97
  rw [ByteArray.size_append]
  show (Qj u.node).size+10+(1+u.text.size)≤97
  omega
 ·obtain ⟨hn,hal⟩:=Q9g hu
  obtain ⟨u1,u2⟩:=Q46 hn.2.1 hn.2.2
  have hl:Q2A u.alias:=by
   rcases hal.1 with q | q
   ·exact absurd q ha
   ·exact q
  obtain ⟨v1,v2⟩:=Q46 hl.2.1 hl.2.2
  have us:=Q3g u.node
  have vs:=Q3g u.alias
  have hn2:=hn.2.2
  have hl2:=hl.2.2
  refine ⟨Q4A 5 v1 (by omega) ((Q5c _ 5 (by omega)).2 u1),by show (5:Int)≠41; decide,?_⟩
  show (Qj u.alias).size+10+(Qj u.node).size≤97
  omega
 ·obtain ⟨hn,ha⟩:=Q9g hu
  have us:=Q3g u.node
  have hn2:=hn.2.2
  refine ⟨Q4A 33 QaZ (by omega) (Qjh _ _ hn.2.1 hn.2.2),by show (33:Int)≠41; decide,?_⟩
  show 21+10+(q4 0++wd u.port.toNat++Qj u.node).size≤97
  rw [ByteArray.size_append,ByteArray.size_append,Q2C,Q00]
  omega
def Qe6 (c d:Nat):Prop:=d=c∨(97≤c∧c≤122∧d+32=c)∨(65≤c∧c≤90∧d=c+32)
def Ql0 (s t:ByteArray):Prop:=t.size=s.size∧∀ i,i < s.size→Qe6 (bt s i) (bt t i)
theorem QaA {c d:Nat} (h:Qe6 c d) (hc:c≤64):d=c:=by
 rcases h with h | ⟨h1,h2,h3⟩ | ⟨h1,h2,h3⟩ <;> omega
theorem Qlz (n:Nat) (h:n < 256):bt (one n) 0=n:=by
 show (UInt8.ofNat n).toNat=_
 rw [UInt8.toNat_ofNat_of_lt' (by simpa using h)]
theorem Qap (s:ByteArray):∀ j,∀ i,i < j→bt (Q2Z s j) i=Q5R (bt s i)
 | 0,i,h=>by omega
 | j+1,i,h=>by
  show bt (Q2Z s j++one (Q5R (bt s j))) i=_
  rw [Q03,Q4i]
  by_cases c:i < j
  ·rw [if_pos c]; exact Qap s j i c
  ·have:i=j:=by omega
   subst this
   rw [if_neg (by omega),Nat.sub_self,Qlz _ (Qkm (Q20 s i))]
theorem Qje (s:ByteArray) (i:Nat) (h:i < s.size):bt (Q1h s) i=Q5R (bt s i):=Qap s s.size i h
theorem QeF (c:Nat):Qe6 c (Q5R c):=by
 unfold Q5R
 split
 ·exact .inr (.inr ⟨by omega,by omega,rfl⟩)
 ·exact .inl rfl
theorem QdN (s:ByteArray):Ql0 s (Q1h s):=⟨Q6h s,fun i hi=>by rw [Qje s i hi]; exact QeF _⟩
theorem Qig {s t:ByteArray} (h:Ql0 s t) {k:Nat} (hk:Tl s k):Tl t k:=by
 induction hk with
 | root k h1 h2 =>
  have h3:=QaA (h.2 k (by omega)) (by omega)
  exact .root k (by rw [h.1]; exact h1) (by rw [h3]; exact h2)
 | lab k h1 h2 h3 ih =>
  have h4:=QaA (h.2 k (by have:=h3.lt; omega)) (by omega)
  exact .lab k (by omega) (by omega) (by rw [h4]; exact ih)
def KindZ (z:List RI) (L:List ST):Prop:=∀ s,s∈L→∃ n,s.l=ofP z n s.kind∧s.l≠[]
theorem KindZ.want {z:List RI} {L:List ST} (h:KindZ z L) (p:Nat) (n:ByteArray) (t:Int):KindZ z (Q0c z L p n t):=by
 intro s hs
 unfold Q0c at hs
 split at hs
 ·exact h s hs
 ·next hne =>
  rcases List.mem_append.1 hs with q | q
  ·exact h s q
  ·rw [List.mem_singleton] at q
   subst q
   exact ⟨n,rfl,hne⟩
theorem KindZ.nil (z:List RI):KindZ z []:=fun s hs=>by cases hs
theorem QaC (z:List RI) (n:ByteArray) (L:List ST) (j:Nat) (k:z.length≤j):Q0f z n L (j+1)=Q0f z n L j:=by
 show (match z[j]? with | none=>_ | some x=>_:List ST)=_
 rw [List.getElem?_eq_none k]
def NameZ (z:List RI) (n:ByteArray) (L:List ST):Prop:=∀ s,s∈L→s.l=ofP z n s.kind∧s.l≠[]∧s.part=0
theorem NameZ.want {z:List RI} {n:ByteArray} {L:List ST} (h:NameZ z n L) (t:Int):NameZ z n (Q0c z L 0 n t):=by
 intro s hs
 unfold Q0c at hs
 split at hs
 ·exact h s hs
 ·next hne =>
  rcases List.mem_append.1 hs with q | q
  ·exact h s q
  ·rw [List.mem_singleton] at q
   subst q
   exact ⟨rfl,hne,rfl⟩
theorem NameZ.all (z:List RI) (n:ByteArray):∀ j,NameZ z n (Q0f z n [] j)
 | 0=>fun s hs=>by simp [Q0f] at hs
 | j+1=>by
  have ih:=NameZ.all z n j
  rcases Nat.lt_or_ge j z.length with k | k
  ·rw [Q26 z n [] j k]
   split
   ·exact ih.want _
   ·exact ih
  ·rw [QaC z n [] j k]
   exact ih
theorem NameZ.kind {z:List RI} {n:ByteArray} {L:List ST} (h:NameZ z n L):KindZ z L:=fun s hs=>⟨n,(h s hs).1,(h s hs).2.1⟩
theorem KindZ.answ (z:List RI) (n:ByteArray) (t:Int):KindZ z (Q0w z [] n t):=by
 unfold Q0w
 split
 ·exact (NameZ.all z n _).kind
 ·split
  ·exact (KindZ.nil z).want _ _ _
  ·exact ((KindZ.nil z).want _ _ _).want _ _ _
theorem KindZ.main (z:List RI) (n:ByteArray) (t:Int):KindZ z (Q1z z n t):=by
 unfold Q1z Qb1
 split
 ·exact KindZ.answ z n t
 ·exact (KindZ.answ z n t).want _ _ _
theorem Qb0 {L:List ST} (h:∀ s,s∈L→s.kind≠33):Q0r L=[]:=by
 unfold Q0r
 split
 ·rfl
 ·next s hs =>
  have h2:=List.find?_some hs
  have h2':s.kind=33:=by simpa using h2
  exact absurd h2' (h s (List.mem_of_find?_eq_some hs))
def QmL (S:List ST) (c:Nat):Prop:=∃ i,c≤i∧∃ h:i < S.length,S[i].part≠2
noncomputable def Qb2 (l:List Ev):RI:=Q04 Qm 6 (Q5U (Q8i (Q1e l)).toNat)
theorem Qhx (l:List Ev):∃ R,Qg l=Qb2 l :: Q04 Qm 2 Q0D :: R∧∀ x,x∈R→x.ty≠6∧x.ty≠2:=by
 refine ⟨(upM l).flatMap Q0y++(Qgi l).map cnR++(upM l).map Q1q,?_,?_⟩
 ·unfold Qg Qgi Qb2
  simp only [List.append_assoc,List.cons_append,List.nil_append]
 ·intro x hx
  rcases List.mem_append.1 hx with hx | hx
  ·rcases List.mem_append.1 hx with hx | hx
   ·obtain ⟨u,_,hx⟩:=List.mem_flatMap.1 hx
    obtain ⟨_,hk,_⟩:=Q76 hx
    omega
   ·obtain ⟨u,_,rfl⟩:=List.mem_map.1 hx
    exact ⟨by show (5:Int)≠6; decide,by show (5:Int)≠2; decide⟩
  ·obtain ⟨u,_,rfl⟩:=List.mem_map.1 hx
   exact ⟨by show (33:Int)≠6; decide,by show (33:Int)≠2; decide⟩
theorem QlU (l:List Ev):ofP (Qg l) Qm 6=[Qb2 l]:=by
 obtain ⟨R,hR,h6⟩:=Qhx l
 unfold ofP
 have e1:(fun x:RI=>decide (x.name=Qm∧x.ty=6)) (Qb2 l)=true:=decide_eq_true ⟨rfl,rfl⟩
 have e2:¬ (fun x:RI=>decide (x.name=Qm∧x.ty=6)) (Q04 Qm 2 Q0D)=true:=fun h=>absurd (of_decide_eq_true h).2 (by show ¬ (2:Int)=6; decide)
 have e3:R.filter (fun x:RI=>decide (x.name=Qm∧x.ty=6))=[]:=List.filter_eq_nil_iff.2 fun x hx h=>(h6 x hx).1 (of_decide_eq_true h).2
 rw [hR,List.filter_cons_of_pos (p:=fun x:RI=>decide (x.name=Qm∧x.ty=6)) e1,List.filter_cons_of_neg (p:=fun x:RI=>decide (x.name=Qm∧x.ty=6)) e2,e3]
theorem QkO (l:List Ev) (L:List ST):Qb1 (Qg l) L=L++[⟨1,6,[Qb2 l]⟩]:=by
 unfold Qb1 Q0c
 rw [QlU,if_neg (by simp)]
def Qn0 (id:Int) (n:ByteArray) (t:Int):MI:=⟨id,0,[⟨n,t,1⟩],[],[],[]⟩
theorem Qdc (z:List RI) (n:ByteArray) (t:Int):(ofP z n t).length=Qc2 z n t:=by
 unfold ofP Qc2
 rw [←List.countP_eq_length_filter]
def QmF (part z:List RI):Prop:=∀ x,x∈part→ofP part x.name x.ty=ofP z x.name x.ty
theorem Qly (A B:List RI) (n:ByteArray) (t:Int):ofP (A++B) n t=ofP A n t++ofP B n t:=by
 unfold ofP
 rw [List.filter_append]
theorem of_none {A:List RI} {n:ByteArray} {t:Int} (h:∀ x,x∈A→¬ (x.name=n∧x.ty=t)):ofP A n t=[]:=by
 unfold ofP
 rw [List.filter_eq_nil_iff]
 intro x hx
 rw [decide_eq_true_iff]
 exact h x hx
theorem QiP {z:List RI} {n:ByteArray} {t:Int} {x:RI} (h:x∈ofP z n t):x∈z∧x.name=n∧x.ty=t:=by
 obtain ⟨h1,h2⟩:=List.mem_filter.1 h
 exact ⟨h1,of_decide_eq_true h2⟩
def QmD (a b:ST):Prop:=∀ x,x∈a.l→∀ y,y∈b.l→¬ (x.name=y.name∧x.ty=y.ty)
def QmC (z:List RI) (T:List ST):Prop:=∀ s,s∈T→∃ n t,s.l=ofP z n t
def Kinds (L:List ST):Prop:=L.Pairwise fun a b=>a.kind≠b.kind
theorem Qii {L:List ST} {t:Int} (h:Q0Q L t=false):∀ s,s∈L→s.kind≠t:=fun s hs e=>by
 unfold Q0Q at h
 rw [List.any_eq_false] at h
 exact h s hs (decide_eq_true e)
theorem Kinds.want {z:List RI} {L:List ST} (h:Kinds L) (p:Nat) (n:ByteArray) (t:Int) (ht:∀ s,s∈L→s.kind≠t):Kinds (Q0c z L p n t):=by
 unfold Q0c
 split
 ·exact h
 ·refine List.pairwise_append.2 ⟨h,List.pairwise_singleton _ _,fun a ha b hb=>?_⟩
  rw [List.mem_singleton] at hb
  subst hb
  exact ht a ha
theorem Kinds.all (z:List RI) (n:ByteArray):∀ j,Kinds (Q0f z n [] j)
 | 0=>List.Pairwise.nil
 | j+1=>by
  have ih:=Kinds.all z n j
  rcases Nat.lt_or_ge j z.length with k | k
  ·rw [Q26 z n [] j k]
   split
   ·next hc=>exact ih.want _ _ _ (Qii hc.2)
   ·exact ih
  ·rw [QaC z n [] j k]
   exact ih
theorem Qhu {z:List RI} {p:Nat} {n:ByteArray} {t:Int}:∀ s,s∈Q0c z [] p n t→s.kind=t:=fun s hs=>by
 unfold Q0c at hs
 split at hs
 ·simp at hs
 ·rw [List.nil_append,List.mem_singleton] at hs
  subst hs
  rfl
theorem Kinds.answ (z:List RI) (n:ByteArray) (t:Int):Kinds (Q0w z [] n t):=by
 unfold Q0w
 split
 ·exact Kinds.all z n _
 ·have h0:Kinds ([]:List ST):=List.Pairwise.nil
  have h1:Kinds (Q0c z [] 0 n 5):=h0.want 0 n 5 fun s hs=>by simp at hs
  split
  ·exact h1
  ·next hc=>exact h1.want _ _ _ fun s hs=>by rw [Qhu s hs]; exact fun e=>hc e.symm
theorem KindZ.sets {z:List RI} {L:List ST} (h:KindZ z L):QmC z L:=fun s hs=>by obtain ⟨n,hn,_⟩:=h s hs; exact ⟨n,_,hn⟩
theorem Qir {l:List Ev} {y:RI} (hy:y∈Qg l) (ht:y.ty=1∨y.ty=28):ofP (Qg l) y.name y.ty=[y]∧∃ u,u∈upM l∧y.name=Qj u.node:=by
 have hform:∃ u,u∈upM l∧y=Q04 (Qj u.node) (Q0N u) u.addr:=by
  rcases QaH hy with (⟨k,rfl⟩ | rfl) | ⟨u,hu,rfl | ⟨_,rfl⟩⟩ | ⟨u,hu,_,_,rfl⟩ | ⟨u,hu,rfl⟩
  ·exact absurd ht (by show ¬ ((6:Int)=1∨(6:Int)=28); decide)
  ·exact absurd ht (by show ¬ ((2:Int)=1∨(2:Int)=28); decide)
  ·exact ⟨u,hu,rfl⟩
  ·exact absurd ht (by show ¬ ((16:Int)=1∨(16:Int)=28); decide)
  ·exact absurd ht (by show ¬ ((5:Int)=1∨(5:Int)=28); decide)
  ·exact absurd ht (by show ¬ ((33:Int)=1∨(33:Int)=28); decide)
 obtain ⟨u,hu,rfl⟩:=hform
 refine ⟨?_,u,hu,rfl⟩
 have he:u∈upP l:=by rw [←Q5H]; exact hu
 have hk:=Q9e u
 have h1:=Qdc (Qg l) (Qj u.node) (Q0N u)
 have h2:Qc2 (Qg l) (Qj u.node) (Q0N u)=1:=by
  rw [Q3x,QfI he (Q0N u) (by omega),if_pos rfl]
  split
  ·rfl
  ·rw [if_neg (by omega)]
 rw [h2] at h1
 obtain ⟨x,hx⟩:=List.length_eq_one_iff.1 h1
 have h3:Q04 (Qj u.node) (Q0N u) u.addr∈ofP (Qg l) (Qj u.node) (Q0N u):=List.mem_filter.2 ⟨hy,decide_eq_true ⟨rfl,rfl⟩⟩
 rw [hx,List.mem_singleton] at h3
 show ofP (Qg l) (Qj u.node) (Q0N u)=_
 rw [hx,h3]
def QmO (z sv:List RI) (j:Nat) (t:ST):Prop:=∃ i y,i < j∧t=⟨2,y.ty,[y]⟩∧y∈z∧(y.ty=1∨y.ty=28)∧∃ h:i < sv.length,y.name=Q0q sv[i].data
theorem Qke {node:ByteArray} {x:RI} (h:Q2e node x=true):x.name=node∧(x.ty=1∨x.ty=28):=of_decide_eq_true h
theorem Qar (u:Ev):Q0q (Q1q u).data=Qj u.node:=by
 obtain ⟨h1,h2⟩:=QdR u
 unfold Q0q
 rw [if_neg (by omega)]
 exact h2
def Q3v (z:List RI) (L:List ST) (sv:List RI):List ST:=sv.foldl (fun S x=>Q0c z (Q0c z S 2 (Q0q x.data) 1) 2 (Q0q x.data) 28) L
def Q3i (z:List RI) (L:List ST) (A:List ST):List ST:=A.foldl (fun S s=>if s.kind=33 then Q3v z S s.l else S) L
theorem Qgb {l:List Ev} {u:Ev} (hu:u∈upM l):ofP (Qg l) (Qj u.node) (Q0N u)=[Q04 (Qj u.node) (Q0N u) u.addr]∧∀ t,(t=1∨t=28)→t≠Q0N u→ofP (Qg l) (Qj u.node) t=[]:=by
 have he:u∈upP l:=by rw [←Q5H]; exact hu
 have hrec:Q04 (Qj u.node) (Q0N u) u.addr∈Qg l:=by
  unfold Qg
  refine List.mem_append_left _ (List.mem_append_left _ (List.mem_append_right _ (List.mem_flatMap.2 ⟨u,hu,?_⟩)))
  unfold Q0y Q0N
  exact List.mem_cons_self
 refine ⟨(Qir hrec (Q9e u)).1,fun t ht hne=>?_⟩
 have h1:=Qdc (Qg l) (Qj u.node) t
 rw [Q3x,QfI he t (by omega)] at h1
 have h2:(ofP (Q0I l) (Qj u.node) t).length=0:=by
  rw [h1,if_neg (fun h=>hne h.symm)]
  split
  ·rfl
  ·rw [if_neg (by omega)]
 rw [Q3x]
 exact List.length_eq_zero_iff.1 h2
theorem Qiq {l:List Ev} {u:Ev} (hu:u∈upM l) (S:List ST):Q0c (Qg l) (Q0c (Qg l) S 2 (Qj u.node) 1) 2 (Qj u.node) 28=S++[⟨2,Q0N u,[Q04 (Qj u.node) (Q0N u) u.addr]⟩]:=by
 obtain ⟨h1,h2⟩:=Qgb hu
 rcases Q9e u with k | k
 ·have e2:=h2 28 (by omega) (by omega)
  rw [k] at h1 ⊢
  unfold Q0c
  rw [h1,e2,if_pos rfl,if_neg (by simp)]
 ·have e2:=h2 1 (by omega) (by omega)
  rw [k] at h1 ⊢
  unfold Q0c
  rw [h1,e2,if_neg (by simp),if_pos rfl]
theorem QfX (z:List RI) (node:ByteArray):∀ d i p,p=i+d→∀ hp:p < z.length,Q2e node z[p]=true→(∀ k (h:k < z.length),i≤k→k < p→Q2e node z[k]=false)→Q1Q z node i=p
 | 0,i,p,h,hp,hh,_=>by
  subst h
  exact QbH hp hh
 | d+1,i,p,h,hp,hh,hno=>by
  have hi:i < z.length:=by omega
  rw [QfV hi (hno i hi (Nat.le_refl _) (by omega))]
  exact QfX z node d (i+1) p (by omega) hp hh fun k hk h1 h2=>hno k hk (by omega) h2
theorem QlZ {z:List RI} {p:RI→Bool} {i k:Nat} (h:i < k) (hk:k < z.length) (h1:p z[i]=true) (h2:p z[k]=true):2≤z.countP p:=by
 have e:z=z.take (i+1)++z.drop (i+1):=(List.take_append_drop _ _).symm
 rw [e,List.countP_append]
 have a1:0 < (z.take (i+1)).countP p:=List.countP_pos_iff.2 ⟨z[i],by
  rw [List.take_succ_eq_append_getElem (by omega)]
  exact List.mem_append_right _ (List.mem_singleton.2 rfl),h1⟩
 have a2:0 < (z.drop (i+1)).countP p:=List.countP_pos_iff.2 ⟨z[k],by
  rw [List.mem_iff_getElem]
  exact ⟨k - (i+1),by rw [List.length_drop]; omega,by rw [List.getElem_drop]; congr 1; omega⟩,h2⟩
 omega
def Q39 (up:List Ev) (j:Nat):Nat:=2+((up.take j).flatMap Q0y).length
theorem QlK (l:List Ev) (j:Nat) (h:j < (upM l).length):∃ hp:Q39 (upM l) j < (Qg l).length,(Qg l)[Q39 (upM l) j]=Q04 (Qj (upM l)[j].node) (Q0N (upM l)[j]) (upM l)[j].addr:=by
 have e:Qg l=([Qb2 l,Q04 Qm 2 Q0D]++((upM l).take j).flatMap Q0y)++(Q04 (Qj (upM l)[j].node) (Q0N (upM l)[j]) (upM l)[j].addr :: ((Q0y (upM l)[j]).drop 1++((upM l).drop (j+1)).flatMap Q0y++(Qgi l).map cnR++(upM l).map Q1q)):=by
  have h1:(upM l).flatMap Q0y=((upM l).take j).flatMap Q0y++(Q0y (upM l)[j]++((upM l).drop (j+1)).flatMap Q0y):=by
   conv=>lhs; rw [←List.take_append_drop j (upM l),List.drop_eq_getElem_cons h]
   rw [List.flatMap_append,List.flatMap_cons]
  have h2:Q0y (upM l)[j]=Q04 (Qj (upM l)[j].node) (Q0N (upM l)[j]) (upM l)[j].addr :: (Q0y (upM l)[j]).drop 1:=rfl
  have h0:Qg l=[Qb2 l,Q04 Qm 2 Q0D]++(upM l).flatMap Q0y++(Qgi l).map cnR++(upM l).map Q1q:=rfl
  rw [h0,h1]
  conv=>lhs; rw [h2]
  simp only [List.append_assoc,List.cons_append]
 have hlen:([Qb2 l,Q04 Qm 2 Q0D]++((upM l).take j).flatMap Q0y).length=Q39 (upM l) j:=by
  unfold Q39
  rw [List.length_append]
  rfl
 refine ⟨by rw [e,List.length_append,hlen,List.length_cons]; omega,?_⟩
 rw [List.getElem_of_eq e,List.getElem_append_right (by omega)]
 simp only [hlen,Nat.sub_self,List.getElem_cons_zero]
theorem QiW (up:List Ev) (j:Nat) (h:j < up.length):Q39 up j≤Q39 up (j+1):=by
 unfold Q39
 rw [List.take_succ_eq_append_getElem h,List.flatMap_append,List.length_append]
 omega
theorem QkQ (l:List Ev) (n:ByteArray):ofP (Qg l) n 33=[]∨ofP (Qg l) n 33=(upM l).map Q1q:=by
 have e:ofP (Qg l) n 33=ofP ((upM l).map Q1q) n 33:=by
  have h0:Qg l=([Qb2 l,Q04 Qm 2 Q0D]++(upM l).flatMap Q0y++(Qgi l).map cnR)++(upM l).map Q1q:=rfl
  rw [h0,Qly,of_none (A:=[Qb2 l,Q04 Qm 2 Q0D]++(upM l).flatMap Q0y++(Qgi l).map cnR),List.nil_append]
  intro x hx h
  rcases List.mem_append.1 hx with hx | hx
  ·rcases List.mem_append.1 hx with hx | hx
   ·simp only [List.mem_cons,List.mem_nil_iff,or_false] at hx
    rcases hx with rfl | rfl
    ·exact absurd h.2 (by show ¬ (6:Int)=33; decide)
    ·exact absurd h.2 (by show ¬ (2:Int)=33; decide)
   ·obtain ⟨u,_,hx⟩:=List.mem_flatMap.1 hx
    obtain ⟨_,hk,_⟩:=Q76 hx
    omega
  ·obtain ⟨u,_,rfl⟩:=List.mem_map.1 hx
   exact absurd h.2 (by show ¬ (5:Int)=33; decide)
 rw [e]
 by_cases c:n=Q36
 ·refine .inr (List.filter_eq_self.2 fun x hx=>?_)
  obtain ⟨u,_,rfl⟩:=List.mem_map.1 hx
  exact decide_eq_true ⟨c.symm,rfl⟩
 ·refine .inl (of_none fun x hx h=>?_)
  obtain ⟨u,_,rfl⟩:=List.mem_map.1 hx
  exact c h.1.symm
theorem Q6O (l:List Ev) (S:List ST):∀ j,j≤(upM l).length→(Q0a (Qg l) ((upM l).map Q1q) S j).2=Q3v (Qg l) S (((upM l).map Q1q).take j)∧((Q0a (Qg l) ((upM l).map Q1q) S j).1≤Q39 (upM l) j)
 | 0,_=>⟨rfl,Nat.zero_le _⟩
 | j+1,hj=>by
  obtain ⟨i1,i2⟩:=Q6O l S j (by omega)
  have hlen:j < ((upM l).map Q1q).length:=by rw [List.length_map]; omega
  have hju:j < (upM l).length:=by omega
  obtain ⟨s1,_⟩:=Q4u (Qg l) ((upM l).map Q1q) S j hlen
  have hx:((upM l).map Q1q)[j]=Q1q (upM l)[j]:=List.getElem_map ..
  obtain ⟨hp,hz⟩:=QlK l j hju
  have hmem:(upM l)[j]∈upM l:=List.getElem_mem hju
  have hhost:Q2e (Qj (upM l)[j].node) (Qg l)[Q39 (upM l) j]=true:=by
   rw [hz]
   exact decide_eq_true ⟨rfl,Q9e _⟩
  have hno:∀ k (h:k < (Qg l).length),(Q0a (Qg l) ((upM l).map Q1q) S j).1≤k→k < Q39 (upM l) j→Q2e (Qj (upM l)[j].node) (Qg l)[k]=false:=fun k hk _ hkp=>by
   cases hq:Q2e (Qj (upM l)[j].node) (Qg l)[k] with
   | false=>rfl
   | true =>
    obtain ⟨q1,q2⟩:=Qke hq
    obtain ⟨g1,g2⟩:=Qgb hmem
    have hty:(Qg l)[k].ty=Q0N (upM l)[j]:=by
     by_cases c:(Qg l)[k].ty=Q0N (upM l)[j]
     ·exact c
     ·have h9:=g2 _ q2 c
      have h8:(Qg l)[k]∈ofP (Qg l) (Qj (upM l)[j].node) (Qg l)[k].ty:=List.mem_filter.2 ⟨List.getElem_mem hk,decide_eq_true ⟨q1,rfl⟩⟩
      rw [h9] at h8
      simp at h8
    have h2:=QlZ (p:=fun x:RI=>decide (x.name=Qj (upM l)[j].node∧x.ty=Q0N (upM l)[j])) hkp hp (decide_eq_true ⟨q1,hty⟩) (by rw [hz]; exact decide_eq_true ⟨rfl,rfl⟩)
    have h3:(Qg l).countP (fun x:RI=>decide (x.name=Qj (upM l)[j].node∧x.ty=Q0N (upM l)[j]))=1:=by
     have h4:=congrArg List.length g1
     unfold ofP at h4
     rw [←List.countP_eq_length_filter] at h4
     exact h4
    omega
  have hseek:Q1Q (Qg l) (Q0q ((upM l).map Q1q)[j].data) (Q0a (Qg l) ((upM l).map Q1q) S j).1=Q39 (upM l) j:=by
   rw [hx,Qar]
   exact QfX _ _ (Q39 (upM l) j - (Q0a (Qg l) ((upM l).map Q1q) S j).1) _ _ (by omega) hp hhost hno
  have hlt:Q1Q (Qg l) (Q0q ((upM l).map Q1q)[j].data) (Q0a (Qg l) ((upM l).map Q1q) S j).1 < (Qg l).length:=by rw [hseek]; exact hp
  rw [s1 hlt]
  simp only [hseek]
  refine ⟨?_,QiW _ j hju⟩
  have ht:Q3v (Qg l) S (((upM l).map Q1q).take (j+1))=Q0c (Qg l) (Q0c (Qg l) (Q3v (Qg l) S (((upM l).map Q1q).take j)) 2 (Qj (upM l)[j].node) 1) 2 (Qj (upM l)[j].node) 28:=by
   unfold Q3v
   rw [List.take_succ_eq_append_getElem hlen,List.foldl_append,hx]
   simp only [List.foldl_cons,List.foldl_nil,Qar]
  rw [ht,Qiq hmem,i1,hz]
  rfl
theorem Qip (l:List Ev) (S:List ST) (n:ByteArray):Q3v (Qg l) S (ofP (Qg l) n 33)=(Q0a (Qg l) (ofP (Qg l) n 33) S (ofP (Qg l) n 33).length).2:=by
 rcases QkQ l n with h | h
 ·rw [h]; rfl
 ·rw [h]
  have h1:=(Q6O l S (upM l).length (Nat.le_refl _)).1
  have h2:((upM l).map Q1q).take (upM l).length=(upM l).map Q1q:=by
   rw [List.take_of_length_le (by rw [List.length_map]; omega)]
  rw [h2] at h1
  rw [List.length_map]
  exact h1.symm
theorem Q5p (z:List RI):∀ (A:List ST) (S:List ST),(∀ s,s∈A→s.kind≠33)→Q3i z S A=S
 | [],_,_=>rfl
 | s :: A,S,h=>by
  unfold Q3i
  rw [List.foldl_cons,if_neg (h s (by simp))]
  exact Q5p z A S fun x hx=>h x (by simp [hx])
theorem Qjb (l:List Ev) (n:ByteArray) (t:Int) (hh:Q5Y (Qg l) n=true):Q2m (Qg l) n t=Q3i (Qg l) (Q1z (Qg l) n t) (Q0w (Qg l) [] n t):=by
 unfold Q2m
 rw [hh,if_pos rfl]
 unfold Q60
 have hsv:Q0r (Q1z (Qg l) n t)=Q0r (Q0w (Qg l) [] n t):=by
  unfold Q1z
  split
  ·rfl
  ·rw [QkO]
   unfold Q0r
   rw [List.find?_append]
   cases hf:(Q0w (Qg l) [] n t).find? fun s=>decide (s.kind=33) with
   | none=>rfl
   | some s=>rfl
 rw [hsv]
 cases hf:(Q0w (Qg l) [] n t).find? fun s=>decide (s.kind=33) with
 | none =>
  have hn:∀ s,s∈Q0w (Qg l) [] n t→s.kind≠33:=fun s hs e=>by
   have:=List.find?_eq_none.1 hf s hs
   exact this (decide_eq_true e)
  rw [Q5p _ _ _ hn,Qb0 hn]
  rfl
 | some s =>
  have hm:=List.mem_of_find?_eq_some hf
  have hk:s.kind=33:=by have:=List.find?_some hf; simpa using this
  have hse:Q0r (Q0w (Qg l) [] n t)=s.l:=by unfold Q0r; rw [hf]
  obtain ⟨m,hm2,_⟩:=KindZ.answ (Qg l) n t s hm
  rw [hk] at hm2
  obtain ⟨A,B,hAB⟩:=List.append_of_mem hm
  have hkn:=Kinds.answ (Qg l) n t
  rw [hAB] at hkn
  obtain ⟨_,hk2,hk3⟩:=List.pairwise_append.1 hkn
  obtain ⟨hk4,_⟩:=List.pairwise_cons.1 hk2
  have hA:Q3i (Qg l) (Q1z (Qg l) n t) (Q0w (Qg l) [] n t)=Q3v (Qg l) (Q1z (Qg l) n t) s.l:=by
   rw [hAB]
   unfold Q3i
   rw [List.foldl_append,List.foldl_cons]
   have e1:=Q5p (Qg l) A (Q1z (Qg l) n t) (fun x hx e=>hk3 x hx s (by simp) (by rw [e,hk]))
   unfold Q3i at e1
   rw [e1,if_pos hk]
   exact Q5p (Qg l) B _ (fun x hx e=>hk4 x hx (by rw [e,hk]))
  rw [hA,hse,hm2]
  exact (Qip l _ m).symm
end Go.Proofs.YtdhobdmhnocbgabGreatDoor
