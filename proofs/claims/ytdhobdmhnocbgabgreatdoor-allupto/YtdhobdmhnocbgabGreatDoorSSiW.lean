import Derived.Test.YtdhobdmhnocbgabGreatDoorSAnN
import Derived.Test.YtdhobdmhnocbgabGreatDoorSDntE
namespace Go.Proofs.YtdhobdmhnocbgabGreatDoor
open Go.RowKit Zr
def Goes (a b:St):Prop:=∃ t,b.1=a.1++t
theorem Goes.refl (a:St):Goes a a:=⟨⟨#[]⟩,ByteArray.ext (by rw [ByteArray.data_append]; simp)⟩
theorem Goes.trans {a b c:St} (h:Goes a b) (k:Goes b c):Goes a c:=by
 obtain ⟨t,h⟩:=h
 obtain ⟨u,k⟩:=k
 exact ⟨t++u,by rw [k,h,ByteArray.append_assoc]⟩
theorem QgE (st:St) (s:ByteArray):Goes st (Q30 st s):=⟨_,rfl⟩
theorem Q7B (st:St) (s:ByteArray):Goes st (Q2o st s):=⟨_,rfl⟩
theorem Qln (st:St) (x:Rc):Goes st (Q08 st x):=by
 unfold Q08
 split
 ·exact Goes.refl _
 ·have h1:Goes st (Q1s st x):=((((QgE st _).trans (Q7B _ _)).trans (Q7B _ _)).trans (Q7B _ _)).trans (Q7B _ _)
  exact h1.trans ⟨_,ByteArray.append_assoc⟩
theorem QfH (l:List Rc):∀ st,Goes st (l.foldl Q08 st):=by
 induction l with
 | nil=>exact fun st=>Goes.refl st
 | cons q l ih=>exact fun st=>(Qln st q).trans (ih _)
theorem QdX (m:Msg):(Q3G m).1.size=12:=by
 show (wd _++wd _++wd _++wd _++wd _++wd _).size=12
 simp only [ByteArray.size_append,Q00]
def Q9j (x:Rep):Prop:=x.id < 65536∧32768≤x.fl∧x.fl < 65536∧x.told≤16∧Q7a x.q∧x.q.length≤1
theorem QfR (x:Rep) (h:x.told≤16):Q1H (Q0o x) 2:=by
 unfold Q0o
 split
 ·refine ⟨by simp,fun i hi=>?_⟩
  have e:i=0:=by simpa using hi
  subst e
  refine ⟨⟨rfl,by unfold Q1J Q7O; simp,by unfold Q1J Q7O; simp,⟨by show (0:Int)≤((x.told / 16 * 16777216:Nat):Int); omega,by show ((x.told / 16 * 16777216:Nat):Int)≤4294967295; omega⟩,?_⟩,fun k=>?_⟩
  ·show Q1Y 41 ⟨#[]⟩
   exact ⟨by decide,by kernel_rfl⟩
  ·obtain ⟨_,k⟩:=k
   rcases k with ⟨y,hy,_⟩ | k | k
   ·simp at hy
   ·exact k rfl
   ·exact k rfl
 ·exact ⟨by simp,fun i hi=>absurd hi (by simp)⟩
theorem Qdf (x:Rep):Q5K (Q0o x)≤11:=by
 unfold Q0o
 split
 ·show 0+1+10+0≤11
  omega
 ·decide
theorem QfC (L:List ST) (c f:Nat) (h:32768≤f):∀ j,32768≤Q0P L c f j
 | 0=>h
 | j+1=>by
  have ih:=QfC L c f h j
  rcases Nat.lt_or_ge j L.length with k | k
  ·rw [Q4Y L c f j k]
   split
   ·exact Nat.le_trans ih Nat.left_le_or
   ·exact ih
  ·have:Q0P L c f (j+1)=Q0P L c f j:=by
    conv=>lhs; unfold Q0P
    rw [List.getElem?_eq_none k]
   rw [this]
   exact ih
theorem Qhc (x:Rep) (c:Nat) (h:Q9j x):32768≤Q0P x.sets c (x.fl ||| x.told % 16) x.sets.length∧Q0P x.sets c (x.fl ||| x.told % 16) x.sets.length < 65536:=by
 obtain ⟨h1,h2,h3,h4,h5,h6⟩:=h
 exact ⟨QfC _ _ _ (Nat.le_trans h2 Nat.left_le_or) _,QbZ _ _ _ (Nat.or_lt_two_pow (n:=16) h3 (by omega)) _⟩
theorem Qae (x:Rep) (h:Q9j x):Q1A (Q0A x 0)∧(Q3m (Q0A x 0).nat).1.size≤65535:=by
 obtain ⟨f1,f2⟩:=Qhc x 0 h
 obtain ⟨h1,h2,h3,h4,h5,h6⟩:=h
 have e:Q0A x 0=⟨x.id,(Q0P x.sets 0 (x.fl ||| x.told % 16) x.sets.length:Nat),x.q,[],[],Q0o x⟩:=by
  unfold Q0A
  simp [Q0k]
 have hp:∀ p,Q1H [] p:=fun p=>⟨by simp,fun i hi=>absurd hi (by simp)⟩
 have hok:Q1A (Q0A x 0):=by
  rw [e]
  exact ⟨⟨by show (0:Int)≤(x.id:Int); omega,by show (x.id:Int)≤65535; omega⟩,⟨by simp only; omega,by simp only; omega⟩,h5,hp 0,hp 1,QfR x h4⟩
 refine ⟨hok,Nat.le_trans (Qgd _ hok) ?_⟩
 rw [e]
 show Qfl x.q+Q5K []+Q5K []+Q5K (Q0o x)≤65535
 have ho:=Qdf x
 have hr:Q5K []=0:=rfl
 have hq:Qfl x.q≤300:=by
  match hx:x.q with
  | []=>show 12≤300; omega
  | [q] =>
   have:=h5.2 0 (by rw [hx]; simp)
   have hs:q.name.size≤255:=by
    have:=this.1
    simp only [hx,List.getElem_cons_zero] at this
    exact (Q1j this).2
   show 12+q.name.size+4≤300
   omega
  | a :: b :: l=>rw [hx] at h6; simp at h6
 omega
theorem QkR (id fl:Nat) (m:MI) (l:List Ev) (stream:Bool) (hid:id < 65536) (hf1:32768≤fl) (hf2:fl < 65536) (hm:Q1A m):Q9j (Q3A id fl m l stream):=by
 have hr:∀ f li q,Q1o f li q≤16:=fun f li q=>by unfold Q1o; split <;> (try split) <;> (try split) <;> omega
 have ht:∀ z n,Q3B z n≤16:=fun z n=>by unfold Q3B; split <;> omega
 have ho:fl ||| 1024 < 65536:=Nat.or_lt_two_pow (n:=16) hf2 (by decide)
 have ho2:32768≤fl ||| 1024:=Nat.le_trans hf1 Nat.left_le_or
 have h0:Q7a []:=⟨by simp,fun i hi=>absurd hi (by simp)⟩
 have hq:=hm.2.2.1
 unfold Q3A
 split
 ·next q he =>
  rw [he] at hq
  split
  ·exact ⟨hid,ho2,ho,ht _ _,hq,by simp⟩
  ·exact ⟨hid,hf1,hf2,hr _ _ _,hq,by simp⟩
 ·exact ⟨hid,hf1,hf2,by simp only; omega,h0,by simp⟩
theorem Q62 (f:Nat):32768≤32768 ||| (f &&& 30976)∧32768 ||| (f &&& 30976) < 65536 :=
 ⟨Nat.left_le_or,Nat.or_lt_two_pow (n:=16) (by decide) (Nat.lt_of_le_of_lt Nat.and_le_right (by decide))⟩
theorem Qj1 (l:List Ev) (b:ByteArray) (stream:Bool):Q9j (Q5T l b stream):=by
 obtain ⟨k1,k2⟩:=Q62 (num b 2 2)
 have hid:=Q0n b 0
 unfold Q5T
 split
 ·exact ⟨hid,k1,k2,by simp only; omega,⟨by simp,fun i hi=>absurd hi (by simp)⟩,by simp⟩
 ·next m he=>exact QkR _ _ _ _ _ hid k1 k2 (Q78 b m he)
def Q7m (a b:St):Prop:=a.1.size=b.1.size∧a.2=b.2
theorem Qbq {a b:St} (h:Q7m a b) (s:ByteArray):Q7m (Q30 a s) (Q30 b s):=by
 obtain ⟨h1,h2⟩:=h
 unfold Q30
 rw [h1,h2]
 exact ⟨by rw [ByteArray.size_append,ByteArray.size_append,h1],rfl⟩
theorem Q50 {a b:St} (h:Q7m a b) (s:ByteArray):Q7m (Q2o a s) (Q2o b s):=by
 obtain ⟨h1,h2⟩:=h
 exact ⟨by show (a.1++s).size=(b.1++s).size; rw [ByteArray.size_append,ByteArray.size_append,h1],h2⟩
theorem Qls {a b:St} (h:Q7m a b) (q:Qs):Q7m (Q0J a q) (Q0J b q):=by
 unfold Q0J
 rw [h.1]
 split
 ·exact h
 ·exact Q50 (Q50 (Qbq h _) _) _
theorem Qlt {a b:St} (h:Q7m a b) (x:Rc):Q7m (Q08 a x) (Q08 b x):=by
 unfold Q08
 rw [h.1]
 split
 ·exact h
 ·have hh:Q7m (Q1s a x) (Q1s b x):=Q50 (Q50 (Q50 (Q50 (Qbq h _) _) _) _) _
  obtain ⟨h1,h2⟩:=hh
  unfold Q6K
  rw [h1,h2]
  exact ⟨by simp only [ByteArray.size_append,h1],rfl⟩
theorem Qki (l:List Qs):∀ {a b:St},Q7m a b→Q7m (l.foldl Q0J a) (l.foldl Q0J b):=by
 induction l with
 | nil=>exact fun h=>h
 | cons q l ih=>exact fun h=>ih (Qls h q)
theorem Qkj (l:List Rc):∀ {a b:St},Q7m a b→Q7m (l.foldl Q08 a) (l.foldl Q08 b):=by
 induction l with
 | nil=>exact fun h=>h
 | cons q l ih=>exact fun h=>ih (Qlt h q)
theorem QfG {a b:St} (h:Goes a b):a.1.size≤b.1.size:=by
 obtain ⟨t,h⟩:=h
 rw [h,ByteArray.size_append]
 omega
theorem Qfb (K:List (ByteArray × Nat)) (p:Nat):Q1p K ⟨#[0]⟩ p=(⟨#[0]⟩,[]):=by
 unfold Q1p
 show shF K ⟨#[0]⟩ p (1+1) 0=_
 unfold shF
 rw [if_pos (by decide)]
 rfl
theorem Qde (st:St) (t:Nat) (h:st.1.size≤65535):(Q08 st (Q7O t).nat).1.size=st.1.size+11:=by
 unfold Q08
 rw [if_neg (by omega)]
 have hn:(Q1s st (Q7O t).nat).1.size=st.1.size+9:=by
  show ((((Q30 st ⟨#[0]⟩).1++wd _)++wd _++wd _)++wd _).size=_
  unfold Q30
  rw [Qfb]
  simp only [ByteArray.size_append,Q00]
  show st.1.size+1+2+2+2+2=_
  omega
 have hd:∀ K p,(Q1B K (Q7O t).nat.data (Q7O t).nat.ty p).1=⟨#[]⟩:=fun K p=>by
  show (Q1B K ⟨#[]⟩ 41 p).1=_
  rfl
 unfold Q6K
 rw [hd]
 simp only [ByteArray.size_append,Q00,hn]
 show st.1.size+9+2+0=_
 omega
def Parted (L:List ST):Prop:=L.Pairwise fun a b=>a.part≤b.part
theorem Q6B (s:ST) (p:Nat):Q0k [s] p=if s.part=p then s.l else []:=by
 unfold Q0k
 by_cases h:s.part=p
 ·rw [List.filter_cons_of_pos (by simpa using h),if_pos h]; simp
 ·rw [List.filter_cons_of_neg (by simpa using h),if_neg h]; simp
theorem Q79 {L:List ST} {p:Nat} (h:∀ s,s∈L→s.part≠p):Q0k L p=[]:=by
 unfold Q0k
 have:L.filter (fun s=>decide (s.part=p))=[]:=by
  rw [List.filter_eq_nil_iff]
  intro s hs
  simpa using h s hs
 rw [this]
 rfl
theorem QeP (L:List ST) (hp:Parted L) (h2:∀ s,s∈L→s.part≤2):Q0k L 0++Q0k L 1++Q0k L 2=L.flatMap ST.l:=by
 induction L with
 | nil=>rfl
 | cons s L ih =>
  obtain ⟨hs,hL⟩:=List.pairwise_cons.1 hp
  have ih':=ih hL (fun t ht=>h2 t (List.mem_cons_of_mem _ ht))
  have e:∀ p,Q0k (s :: L) p=Q0k [s] p++Q0k L p:=fun p=>Q8s [s] L p
  rw [e,e,e,Q6B,Q6B,Q6B,List.flatMap_cons,←ih']
  have hs2:=h2 s (by simp)
  have h3:s.part=0∨s.part=1∨s.part=2:=by omega
  rcases h3 with q | q | q
  ·simp [q]
  ·have n0:Q0k L 0=[]:=Q79 fun t ht=>by have:=hs t ht; omega
   simp [q,n0]
  ·have n0:Q0k L 0=[]:=Q79 fun t ht=>by have:=hs t ht; omega
   have n1:Q0k L 1=[]:=Q79 fun t ht=>by have:=hs t ht; omega
   simp [q,n0,n1]
theorem Q5B {A B:List RI} {p:Nat} (h:Q1H (A++B) p):Q1H A p:=by
 obtain ⟨h1,h2⟩:=h
 refine ⟨by rw [List.length_append] at h1; omega,fun i hi=>?_⟩
 have:=h2 i (by rw [List.length_append]; omega)
 rw [List.getElem_append_left hi,List.take_append_of_le_length (by omega)] at this
 exact this
theorem QbL (L:List ST) (c:Nat) (h:c < L.length) (p:Nat):Q0k (L.take (c+1)) p=Q0k (L.take c) p++Q0k [L[c]] p:=by
 rw [List.take_succ_eq_append_getElem h,Q8s]
def Q5W (x:Rep) (c:Nat):St:=((x.sets.take c).flatMap ST.l |>.map RI.nat).foldl Q08 ((x.q.map QI.nat).foldl Q0J (Q3G (Q0A x c).nat))
theorem QbO (x:Rep) (c:Nat) (hp:Parted x.sets) (h2:∀ s,s∈x.sets→s.part≤2):Q3m (Q0A x c).nat=((Q0o x).map RI.nat).foldl Q08 (Q5W x c):=by
 have hf:=QeP (x.sets.take c) (hp.sublist (List.take_sublist _ _)) (fun s hs=>h2 s (List.mem_of_mem_take hs))
 unfold Q5W
 rw [←hf]
 show (((Q0k (x.sets.take c) 2++Q0o x).map RI.nat).foldl Q08 (((Q0k (x.sets.take c) 1).map RI.nat).foldl Q08 (((Q0k (x.sets.take c) 0).map RI.nat).foldl Q08 ((x.q.map QI.nat).foldl Q0J _))))=_
 simp only [List.map_append,List.foldl_append]
theorem QjQ (x:Rep) (c:Nat) (h:c < x.sets.length):(Q5W x c).1.size≤(Q5W x (c+1)).1.size:=by
 have hl:Q7m (Q3G (Q0A x c).nat) (Q3G (Q0A x (c+1)).nat):=⟨by rw [QdX,QdX],rfl⟩
 have h1:=Qkj ((x.sets.take c).flatMap ST.l |>.map RI.nat) (Qki (x.q.map QI.nat) hl)
 have h2:Q5W x (c+1)=(x.sets[c].l.map RI.nat).foldl Q08 (((x.sets.take c).flatMap ST.l |>.map RI.nat).foldl Q08 ((x.q.map QI.nat).foldl Q0J (Q3G (Q0A x (c+1)).nat))):=by
  unfold Q5W
  rw [List.take_succ_eq_append_getElem h,List.flatMap_append,List.map_append,List.foldl_append]
  simp
 rw [h2]
 have h3:=QfG (QfH (x.sets[c].l.map RI.nat) (((x.sets.take c).flatMap ST.l |>.map RI.nat).foldl Q08 ((x.q.map QI.nat).foldl Q0J (Q3G (Q0A x (c+1)).nat))))
 have h4:=h1.1
 unfold Q5W
 omega
theorem QgZ (x:Rep) (st:St) (h:(((Q0o x).map RI.nat).foldl Q08 st).1.size≤65535):st.1.size≤65535∧(((Q0o x).map RI.nat).foldl Q08 st).1.size=st.1.size+(if x.opt then 11 else 0):=by
 have hle:=QfG (QfH ((Q0o x).map RI.nat) st)
 have hs:st.1.size≤65535:=by omega
 refine ⟨hs,?_⟩
 unfold Q0o
 split
 ·exact Qde st x.told hs
 ·rfl
theorem Qic (x:Rep) (c:Nat) (hx:x.fl < 65536) (ht:x.told≤16) (hp:Parted x.sets) (h2:∀ s,s∈x.sets→s.part≤2) (hc:c < x.sets.length) (h:Fit x (c+1)):Fit x c:=by
 obtain ⟨hok,hs,hl⟩:=h
 rw [QbO x (c+1) hp h2] at hs hl
 obtain ⟨s1,s2⟩:=QgZ x _ hs
 rw [s2] at hs hl
 have hb:=QjQ x c hc
 have hw:(Q3m (Q0A x c).nat).1.size≤(Q5W x (c+1)).1.size+(if x.opt then 11 else 0):=by
  rw [QbO x c hp h2]
  unfold Q0o
  split
  ·next ho =>
   have:=Qde (Q5W x c) x.told (by omega)
   show (Q08 (Q5W x c) (Q7O x.told).nat).1.size≤_
   omega
  ·show (Q5W x c).1.size≤_
   omega
 refine ⟨?_,by omega,by omega⟩
 obtain ⟨k1,_,k3,k4,k5,k6⟩:=hok
 have k4':Q1H (Q0k (x.sets.take (c+1)) 0) 0:=k4
 have k5':Q1H (Q0k (x.sets.take (c+1)) 1) 1:=k5
 have k6':Q1H (Q0k (x.sets.take (c+1)) 2++Q0o x) 2:=k6
 rw [QbL x.sets c hc] at k4' k5' k6'
 have hfl:=QbZ x.sets c (x.fl ||| x.told % 16) (Nat.or_lt_two_pow (n:=16) hx (by omega)) x.sets.length
 refine ⟨k1,⟨by show (0:Int)≤((_:Nat):Int); omega,by show ((_:Nat):Int)≤65535; omega⟩,k3,Q5B k4',Q5B k5',?_⟩
 show Q1H (Q0k (x.sets.take c) 2++Q0o x) 2
 have kf:=Q5B (Q5B k6')
 have ho:=QfR x ht
 unfold Q0o at k6' ho ⊢
 split
 ·next hop =>
  rw [if_pos hop] at k6' ho
  refine ⟨?_,fun i hi=>?_⟩
  ·have:=k6'.1
   simp only [List.length_append] at this ⊢
   omega
  ·rcases Nat.lt_or_ge i (Q0k (x.sets.take c) 2).length with q | q
   ·rw [List.getElem_append_left q,List.take_append_of_le_length (by omega)]
    exact kf.2 i q
   ·have ei:i=(Q0k (x.sets.take c) 2).length:=by simp only [List.length_append,List.length_cons,List.length_nil] at hi; omega
    subst ei
    rw [List.getElem_append_right (Nat.le_refl _)]
    simp only [Nat.sub_self,List.getElem_cons_zero,List.take_left]
    refine ⟨(ho.2 0 (by simp)).1,fun hm=>?_⟩
    have:=(k6'.2 (Q0k (x.sets.take c) 2++Q0k [x.sets[c]] 2).length (by simp)).2
    rw [List.getElem_append_right (Nat.le_refl _)] at this
    simp only [Nat.sub_self,List.getElem_cons_zero,List.take_left] at this
    refine this ⟨hm.1,?_⟩
    rcases hm.2 with ⟨y,hy,hy2⟩ | q | q
    ·exact .inl ⟨y,List.mem_append_left _ hy,hy2⟩
    ·exact .inr (.inl q)
    ·exact .inr (.inr q)
 ·rw [List.append_nil]
  exact kf
theorem QcO (x:Rep) (hx:x.fl < 65536) (ht:x.told≤16) (hp:Parted x.sets) (h2:∀ s,s∈x.sets→s.part≤2) (c:Nat):∀ d,c+d≤x.sets.length→Fit x (c+d)→Fit x c
 | 0,_,h=>h
 | d+1,hd,h=>QcO x hx ht hp h2 c d (by omega) (Qic x (c+d) hx ht hp h2 (by omega) h)
theorem QcP (x:Rep) (hx:x.fl < 65536) (ht:x.told≤16) (hp:Parted x.sets) (h2:∀ s,s∈x.sets→s.part≤2) {c d:Nat} (h:Q3o x c) (k:Q3o x d):c=d:=by
 have key:∀ {c d:Nat},Q3o x c→Q3o x d→¬ c < d:=by
  intro c d h k hlt
  have hd:Fit x d:=by
   rcases k.2.1 with q | q
   ·omega
   ·exact q
  have:Fit x (c+1):=QcO x hx ht hp h2 (c+1) (d - (c+1)) (by have:=k.1; omega) (by rw [show c+1+(d - (c+1))=d by omega]; exact hd)
  rcases h.2.2 with q | q
  ·have:=k.1; omega
  ·exact q this
 have:=key h k
 have:=key k h
 omega
theorem Parted.want {z:List RI} {L:List ST} (h:Parted L) (p:Nat) (hp:∀ s,s∈L→s.part≤p) (n:ByteArray) (t:Int):Parted (Q0c z L p n t)∧∀ s,s∈Q0c z L p n t→s.part≤p:=by
 unfold Q0c
 split
 ·exact ⟨h,hp⟩
 ·refine ⟨List.pairwise_append.2 ⟨h,by simp,fun a ha b hb=>?_⟩,fun s hs=>?_⟩
  ·rw [List.mem_singleton] at hb
   subst hb
   exact hp a ha
  ·rcases List.mem_append.1 hs with q | q
   ·exact hp s q
   ·rw [List.mem_singleton] at q
    subst q
    exact Nat.le_refl _
theorem Parted.all {z:List RI} (n:ByteArray):∀ j,Parted (Q0f z n [] j)∧∀ s,s∈Q0f z n [] j→s.part≤0
 | 0=>⟨List.Pairwise.nil,fun s hs=>by cases hs⟩
 | j+1=>by
  have ih:=Parted.all (z:=z) n j
  rcases Nat.lt_or_ge j z.length with k | k
  ·rw [Q26 z n [] j k]
   split
   ·exact ih.1.want 0 ih.2 n _
   ·exact ih
  ·show Parted (match z[j]? with | none=>_ | some x=>_:List ST)∧∀ s,s∈(match z[j]? with | none=>_ | some x=>_:List ST)→_
   rw [List.getElem?_eq_none k]
   exact ih
theorem Qdk (z:List RI) (n:ByteArray) (t:Int):Parted (Q0w z [] n t)∧∀ s,s∈Q0w z [] n t→s.part≤0:=by
 have h0:Parted []∧∀ s,s∈([]:List ST)→s.part≤0:=⟨List.Pairwise.nil,fun s hs=>by cases hs⟩
 unfold Q0w
 split
 ·exact Parted.all n _
 ·split
  ·exact h0.1.want 0 h0.2 n 5
  ·have h1:=h0.1.want (z:=z) 0 h0.2 n 5
   exact h1.1.want 0 h1.2 _ t
theorem Qdl (z:List RI) (n:ByteArray) (t:Int):Parted (Q1z z n t)∧∀ s,s∈Q1z z n t→s.part≤1:=by
 obtain ⟨h1,h2⟩:=Qdk z n t
 unfold Q1z Qb1
 split
 ·exact ⟨h1,fun s hs=>by have:=h2 s hs; omega⟩
 ·exact h1.want 1 (fun s hs=>by have:=h2 s hs; omega) _ 6
theorem Q7R (z sv:List RI) (L:List ST) (h:Parted L) (hL:∀ s,s∈L→s.part≤2):∀ j,j≤sv.length→Parted (Q0a z sv L j).2∧∀ s,s∈(Q0a z sv L j).2→s.part≤2
 | 0,_=>⟨h,hL⟩
 | j+1,hj=>by
  obtain ⟨i1,i2⟩:=Q7R z sv L h hL j (by omega)
  obtain ⟨s1,s2⟩:=Q4u z sv L j (by omega)
  rcases Nat.lt_or_ge (Q1Q z (Q0q sv[j].data) (Q0a z sv L j).1) z.length with k | k
  ·rw [s1 k]
   refine ⟨List.pairwise_append.2 ⟨i1,by simp,fun a ha b hb=>?_⟩,fun s hs=>?_⟩
   ·rw [List.mem_singleton] at hb
    subst hb
    exact i2 a ha
   ·rcases List.mem_append.1 hs with q | q
    ·exact i2 s q
    ·rw [List.mem_singleton] at q
     subst q
     exact Nat.le_refl _
  ·rw [s2 k]
   exact ⟨i1,i2⟩
theorem Qdm (z:List RI) (n:ByteArray) (t:Int):Parted (Q2m z n t)∧∀ s,s∈Q2m z n t→s.part≤2:=by
 unfold Q2m
 split
 ·obtain ⟨h1,h2⟩:=Qdl z n t
  exact Q7R z _ _ h1 (fun s hs=>by have:=h2 s hs; omega) _ (Nat.le_refl _)
 ·have h0:Parted []∧∀ s,s∈([]:List ST)→s.part≤1:=⟨List.Pairwise.nil,fun s hs=>by cases hs⟩
  have h1:=h0.1.want (z:=z) 1 h0.2 Qm 6
  exact ⟨h1.1,fun s hs=>by have:=h1.2 s hs; omega⟩
theorem Qf2 (l:List Ev) (b:ByteArray) (stream:Bool):Parted (Q5T l b stream).sets∧∀ s,s∈(Q5T l b stream).sets→s.part≤2:=by
 have h0:Parted []∧∀ s,s∈([]:List ST)→s.part≤2:=⟨List.Pairwise.nil,fun s hs=>by cases hs⟩
 unfold Q5T
 split
 ·exact h0
 ·unfold Q3A
  split
  ·split
   ·exact Qdm _ _ _
   ·exact h0
  ·exact h0
theorem Qj3 (l:List Ev) (b:ByteArray) (stream:Bool) {s t:ByteArray} (h:Q4P l b stream s) (k:Q4P l b stream t):s=t:=by
 rcases h with ⟨m,h⟩ | ⟨m,c,e,hf,hs⟩ <;> rcases k with ⟨n,k⟩ | ⟨n,d,f,kf,ks⟩
 ·rw [h,k]
 ·exact absurd m n
 ·exact absurd n m
 ·obtain ⟨h1,h2,h3,h4,_⟩:=Qj1 l b stream
  obtain ⟨p1,p2⟩:=Qf2 l b stream
  have:=QcP _ h3 h4 p1 p2 hf kf
  subst this
  exact (hs.same ks).1
theorem Qda (b:ByteArray) (i:Nat):num b i 2=256 * bt b i+bt b (i+1):=by simp only [num]; rw [Nat.add_zero]; omega
theorem QgW (x:Rep) (h:Q9j x):(Q3m (Q0A x 0).nat).1.size≤512:=by
 obtain ⟨hok,_⟩:=Qae x h
 have hx:=h
 obtain ⟨h1,h2,h3,h4,h5,h6⟩:=h
 have e:Q0A x 0=⟨x.id,(Q0P x.sets 0 (x.fl ||| x.told % 16) x.sets.length:Nat),x.q,[],[],Q0o x⟩:=by
  unfold Q0A
  simp [Q0k]
 refine Nat.le_trans (Qgd _ hok) ?_
 rw [e]
 show Qfl x.q+Q5K []+Q5K []+Q5K (Q0o x)≤512
 have ho:=Qdf x
 have hr:Q5K []=0:=rfl
 have hq:Qfl x.q≤300:=by
  match hx:x.q with
  | []=>show 12≤300; omega
  | [q] =>
   have:=h5.2 0 (by rw [hx]; simp)
   have hs:q.name.size≤255:=by
    have:=this.1
    simp only [hx,List.getElem_cons_zero] at this
    exact (Q1j this).2
   show 12+q.name.size+4≤300
   omega
  | a :: b :: l=>rw [hx] at h6; simp at h6
 omega
theorem QfP (b:ByteArray) (i:Nat):num b i 2=256 * bt b i+bt b (i+1):=by simp only [num]; rw [Nat.add_zero]; omega
theorem Q5v {w:World} {N:Nat} {v:Value} {m:Msg} (h:MsgIs w N v m):∃ a1 c1 a2 c2 a3 c3 a4 c4,
  v=.agg #[.int .i64 m.int.id,.int .i64 m.int.flags,.slice a1 m.int.q.length c1,.slice a2 m.int.a.length c2,.slice a3 m.int.u.length c3,.slice a4 m.int.x.length c4]∧QueRow w a1 m.int.q∧m.int.q.length≤c1∧RecRow w a4 m.int.x:=by
 obtain ⟨a1,c1,a2,c2,a3,c3,a4,c4,rfl,o1,o2,o3,o4,_⟩:=h
 rw [QeR] at o1
 rw [QeV] at o4
 have e1:m.int.q.length=m.q.length:=by simp [Msg.int]
 have e2:m.int.a.length=m.a.length:=by simp [Msg.int]
 have e3:m.int.u.length=m.u.length:=by simp [Msg.int]
 have e4:m.int.x.length=m.x.length:=by simp [Msg.int]
 rw [←e1] at o1
 rw [←e4] at o4
 refine ⟨a1,c1,a2,c2,a3,c3,a4,c4,by rw [e1,e2,e3,e4]; rfl,?_,?_,(Q18 o4).1⟩
 ·intro hl
  rcases o1.2 with ⟨_,h2⟩ | ⟨g,cap,cur,h1,_,h3,h4,_,h6,h7⟩
  ·exact absurd (List.length_eq_zero_iff.1 h2) hl
  ·cases h1
   refine ⟨g,0,cur,rfl,h3,fun j u hu=>?_⟩
   have hu':(qcI (m.q.map Qs.int))[j]? = some u:=hu
   rw [←h7] at hu'
   have hj:j < m.int.q.length * 3:=by
    have:=(List.getElem?_eq_some_iff.1 hu').1
    rw [List.length_take] at this
    omega
   rw [List.getElem?_take_of_lt hj] at hu'
   rw [Nat.zero_add,←hu']
   simp
 ·rcases o1.2 with ⟨_,h2⟩ | ⟨g,cap,cur,h1,_,h3,h4,_⟩
  ·omega
  ·cases h1
   exact h4
def QbR (w:World) (l:List Ev) (b:ByteArray) (stream:Bool) (e:Ending) (w':World):Prop:=∃ s,e=.returned (.string s)∧Q4P l b stream s∧Below w.heap.size w w'
set_option maxRecDepth 100000 in
set_option maxHeartbeats 4000000 in
theorem Qhd (l:List Ev) (al:Option Addr) (cl N:Nat) (b:ByteArray) (stream:Bool) (w:World) (hE:RowAt w N al (evC l)) (hN:N≤w.heap.size) (hl:l.length≤1048576) (hz:Q2d l) (hb:b.size≤maxLen) :
  Calls Tryz.prog 65 #[.slice al l.length cl,.string b,.bool stream] w fun e w'=>QbR w l b stream e w':=by
 have hb':b.size≤9223372036854775807:=by unfold maxLen at hb; omega
 by_cases c1:b.size < 12
 ·have HR:Hid (Q4P l b stream ⟨#[]⟩):=.inl ⟨.inl c1,rfl⟩
  go_enter Tryz.func65,Tryz.ntmps65
  go_wp2_with fail
  go_ret
  exact ⟨_,rfl,Q6 HR,Below.refl _ _⟩
 ·by_cases c2:65535 < b.size
  ·have HR:Hid (Q4P l b stream ⟨#[]⟩):=.inl ⟨.inr (.inl c2),rfl⟩
   go_enter Tryz.func65,Tryz.ntmps65
   go_wp2_with fail
   go_ret
   exact ⟨_,rfl,Q6 HR,Below.refl _ _⟩
  ·have g0:=Q10 b 0 (by omega)
   have g1:=Q10 b 1 (by omega)
   have g2:=Q10 b 2 (by omega)
   have g3:=Q10 b 3 (by omega)
   have l0:=Q20 b 0
   have l1:=Q20 b 1
   have l2:=Q20 b 2
   have l3:=Q20 b 3
   obtain ⟨f,hf⟩:∃ f,num b 2 2=f:=⟨_,rfl⟩
   obtain ⟨id,hid⟩:∃ f,num b 0 2=f:=⟨_,rfl⟩
   have hf2:f=256 * bt b 2+bt b 3:=by rw [←hf]; exact QfP b 2
   have hid2:id=256 * bt b 0+bt b 1:=by rw [←hid]; exact QfP b 0
   have hfI:(256 * (bt b 2:Int)+(bt b 3:Int))=((f:Nat):Int):=by omega
   have hand:bits .and .i64 ((f:Nat):Int) 32768=((f % 65536 / 32768 * 32768:Nat):Int):=by
    have h1:=Q61 f 32768 (by omega) (by decide)
    have h2:f &&& 32768=f % 65536 / 32768 * 32768:=nat_midmask 16 15 f (by decide)
    rw [h2] at h1
    exact h1
   by_cases c3:128≤bt b 2
   ·have HR:Hid (Q4P l b stream ⟨#[]⟩):=.inl ⟨.inr (.inr c3),rfl⟩
    have hne:(((f % 65536 / 32768 * 32768:Nat):Int) != 0)=true:=by rw [bne_iff_ne]; omega
    generalize f % 65536 / 32768 * 32768=fa at *
    clear hf hid hf2 hid2
    go_enter Tryz.func65,Tryz.ntmps65
    go_wp2_with fail
    go_cut [7] (fun v w'=>v=.int .i64 ((f:Nat):Int)∧Hid (Below w.heap.size w w'))
    case first =>
     go_region
     all_goals go_wp2_with fail
     all_goals go_meet
     all_goals exact ⟨by first | rfl | rw [hfI],Q2x (Below.refl _ _)⟩
    case rest =>
     obtain ⟨rfl,HB0⟩:=hcut
     go_wp2_with fail
     go_ret
     exact ⟨_,rfl,Q6 HR,Q6 HB0⟩
   ·have hne:(((f % 65536 / 32768 * 32768:Nat):Int) != 0)=false:=by rw [bne_eq_false_iff_eq]; omega
    have hmute:¬ QaJ b:=by
     rintro (h | h | h) <;> omega
    have hk:=Q62 f
    obtain ⟨fl,hfl⟩:∃ fl,32768 ||| (f &&& 30976)=fl:=⟨_,rfl⟩
    rw [hfl] at hk
    have hkept:bits .or .i64 32768 (bits .and .i64 ((f:Nat):Int) 30976)=((fl:Nat):Int):=by
     have h1:=Q61 f 30976 (by omega) (by decide)
     have h4:bits .and .i64 ((f:Nat):Int) 30976=((f &&& 30976:Nat):Int):=by simpa using h1
     rw [h4]
     have h5:=Q5q 32768 (f &&& 30976) (by decide) (Nat.lt_of_le_of_lt Nat.and_le_right (by decide))
     rw [hfl] at h5
     simpa using h5
    have hidI:(256 * (bt b 0:Int)+(bt b 1:Int))=((id:Nat):Int):=by omega
    have hidl:id < 65536:=by omega
    have HRep:Hid (∀ s,(∃ c e,Q3o (Q5T l b stream) c∧SerIs (Q0A (Q5T l b stream) c) s e)→Q4P l b stream s):=fun s h=>.inr ⟨hmute,h⟩
    have HNo:Hid (∀ x,Q0X b=.error x→Q5T l b stream=⟨id,fl,1,[],false,[],0⟩):=fun x h=>by
     unfold Q5T
     rw [h,hid,hf,hfl]
    have HYes:Hid (∀ m,Q0X b=.ok m→Q5T l b stream=Q3A id fl m.int l stream∧Q1A m.int):=fun m h=>⟨by
     unfold Q5T
     rw [h]
     simp only
     rw [hid,hf,hfl],Q78 b m h⟩
    have kp:=fun (W:World)=>Q6V b W hb
    have KP:=Qa kp
    have HE:=Qa hE
    generalize f % 65536 / 32768 * 32768=fa at *
    clear hf hid hf2 hid2 hfl hmute kp hE
    go_enter Tryz.func65,Tryz.ntmps65
    go_wp2_with fail
    go_cut [7] (fun v w'=>v=.int .i64 ((f:Nat):Int)∧Hid (Below w.heap.size w w'))
    case first =>
     go_region
     all_goals go_wp2_with fail
     all_goals go_meet
     all_goals exact ⟨by first | rfl | rw [hfI],Q2x (Below.refl _ _)⟩
    case rest =>
     obtain ⟨rfl,HB0⟩:=hcut
     go_wp2_with fail
     obtain ⟨W0,hW0⟩:∃ W0,wc=W0:=⟨_,rfl⟩
     go_cut [8] (fun v w'=>v=.pointer (some ⟨W0.heap.size,0,none⟩)∧Hid (Below W0.heap.size W0 w')∧Hid (w'.heap[W0.heap.size]? = some (.cells #[.int .i64 (id:Nat),.int .i64 (fl:Nat),.int .i64 0,.slice none 0 0,.bool false,.slice none 0 0,.int .i64 0] 144 (0,0))))
     case first =>
      subst hW0
      go_region
      all_goals go_wp2_with fail
      all_goals go_meet
      all_goals exact ⟨rfl,Q2x ((Below.refl _ _).alloc (Nat.le_refl _) _),heap_alloc_new _ _⟩
     case rest =>
      obtain ⟨rfl,HB2,HX2⟩:=hcut
      rw [hW0] at HB0
      obtain ⟨X,hX0⟩:∃ X,W0.heap.size=X:=⟨_,rfl⟩
      have hsz0:=(Q6 HB0).size
      have hBw:=(Q6 HB0).trans ((Q6 HB2).mono (Q6 HB0).size)
      rw [hX0] at HX2 hsz0
      have HBw:=Qa hBw
      clear hBw HB0 HB2 hW0
      rw [hX0]
      clear hX0
      have hlX:=Qb (Q6 HX2)
      have kpw:=Q6 KP wc
      cases hp:Q0X b with
      | error x =>
       have hrep:=Q6 HNo x hp
       have hxn:=Qbz b x hp
       rw [hp] at kpw
       have f1:(x == 0)=false:=beq_eq_false_iff_ne.2 hxn
       rw [hrep] at HRep
       have KPw:=Qa kpw
       clear kpw hrep hp hxn HNo HYes
       go_wp2_with fail
       refine (Q6 KPw).mono ?_
       rintro e w2 ⟨v,rfl,hmi,hb2⟩
       obtain ⟨a1,c1,a2,c2,a3,c3,a4,c4,rfl,_⟩:=Q5v hmi
       have hX3:=(hb2.block X hlX).trans (Q6 HX2)
       have hB3:=(Q6 HBw).trans (hb2.mono (Q6 HBw).size)
       obtain ⟨⟨x0,x1,x2,x3,x4,x5,x6⟩,y0,y1,y2,y3,y4,y5,y6⟩:=Q22 hX3
       have hlX3:=Qb hX3
       generalize (Q0R (.error x)).int=m at *
       have hX4:=(Below.heap_alloc (w2.setCell ⟨X,2,none⟩ (.int .i64 1)) (.cells #[.int .i64 m.id,.int .i64 m.flags,.slice a1 m.q.length c1,.slice a2 m.a.length c2,.slice a3 m.u.length c3,.slice a4 m.x.length c4] 32) X (by rw [Q0l]; exact hlX3)).trans (Qo hX3 2 (.int .i64 1))
       have hRp:Rp ((w2.setCell ⟨X,2,none⟩ (.int .i64 1)).alloc (.cells #[.int .i64 m.id,.int .i64 m.flags,.slice a1 m.q.length c1,.slice a2 m.a.length c2,.slice a3 m.u.length c3,.slice a4 m.x.length c4] 32)) X ⟨id,fl,1,[],false,[],0⟩:=⟨none,0,none,0,hX4,fun h=>absurd rfl h,Nat.le_refl _,Qa7,fun i hi=>absurd hi (Nat.not_lt_zero i),Q6g,Nat.zero_le _,hidl,hk.2,by show 1≤16; omega,Nat.zero_le _⟩
       have hB4:=(hB3.setCell (p:=⟨X,2,none⟩) hsz0 (.int .i64 1)).alloc (by rw [Q0l]; omega) (.cells #[.int .i64 m.id,.int .i64 m.flags,.slice a1 m.q.length c1,.slice a2 m.a.length c2,.slice a3 m.u.length c3,.slice a4 m.x.length c4] 32)
       have kb:=Qfr X _ _ hRp
       have KB:=Qa kb
       have HB4:=Qa hB4
       clear hmi hb2 hX3 hB3 hX4 hRp hB4 kb
       simp only [Q8J]
       go_wp2_with fail
       refine (Q6 KB).mono ?_
       rintro e w5 ⟨s,rfl,hs,hb5⟩
       have HS:=Qa (Q6 HRep s hs)
       have HB5:=Qa ((Q6 HB4).trans (hb5.mono (Q6 HB4).size))
       clear hs hb5 KB
       go_wp2_with fail
       go_ret
       exact ⟨s,rfl,Q6 HS,Q6 HB5⟩
      | ok mm =>
       obtain ⟨hrep,hok⟩:=Q6 HYes mm hp
       rw [hp] at kpw
       rw [hrep] at HRep
       have KPw:=Qa kpw
       have HOk:=Qa hok
       clear kpw hrep hp hok HNo HYes
       go_wp2_with fail
       refine (Q6 KPw).mono ?_
       rintro e w2 ⟨v,rfl,hmi,hb2⟩
       have hmi':MsgIs w2 wc.heap.size v mm:=hmi
       obtain ⟨a1,c1,a2,c2,a3,c3,a4,c4,rfl,hq,hq2,hr⟩:=Q5v hmi'
       have hX3:=(hb2.block X hlX).trans (Q6 HX2)
       have hB3:=(Q6 HBw).trans (hb2.mono (Q6 HBw).size)
       have hlX3:=Qb hX3
       generalize mm.int=m at *
       have hbm:Below w2.heap.size w2 (w2.alloc (.cells #[.int .i64 m.id,.int .i64 m.flags,.slice a1 m.q.length c1,.slice a2 m.a.length c2,.slice a3 m.u.length c3,.slice a4 m.x.length c4] 32)):=(Below.refl _ _).alloc (Nat.le_refl _) _
       have hB4:=hB3.trans (hbm.mono hB3.size)
       have kt:=QlY X w.heap.size id fl m a1 c1 a2 c2 a3 c3 a4 c4 l al cl stream _ ((hbm.block X hlX3).trans hX3) (((Q6 HE).mono hN).below hB4) hsz0 hl hz (hq.below hbm) hq2 (hr.below hbm) (Q6 HOk) hidl hk.2
       have hlX4:X < (w2.alloc (.cells #[.int .i64 m.id,.int .i64 m.flags,.slice a1 m.q.length c1,.slice a2 m.a.length c2,.slice a3 m.u.length c3,.slice a4 m.x.length c4] 32)).heap.size:=by simp; omega
       have KT:=Qa kt
       have HB4:=Qa hB4
       clear hmi hmi' hb2 hX3 hB3 hbm hB4 kt hq hr
       simp only [Q8J]
       go_wp2_with fail
       refine (Q6 KT).mono ?_
       rintro e w5 ⟨rfl,hR5,hG5⟩
       have hB5:=(Q6 HB4).trans (Q8g hG5 hsz0 hlX4)
       have kb:=Qfr X _ _ hR5
       have KB:=Qa kb
       have HB5:=Qa hB5
       clear hR5 hG5 hB5 kb KT
       go_wp2_with fail
       refine (Q6 KB).mono ?_
       rintro e w6 ⟨s,rfl,hs,hb6⟩
       have HS:=Qa (Q6 HRep s hs)
       have HB6:=Qa ((Q6 HB5).trans (hb6.mono (Q6 HB5).size))
       clear hs hb6 KB
       go_wp2_with fail
       go_ret
       exact ⟨s,rfl,Q6 HS,Q6 HB6⟩
set_option maxRecDepth 100000 in
set_option maxHeartbeats 1000000 in
theorem Qb7 (l:List Ev) (al:Option Addr) (cl N:Nat) (b:ByteArray) (stream:Bool) (w:World) (hE:RowAt w N al (evC l)) (hN:N≤w.heap.size) (hl:l.length≤1048576) (hz:Q2d l) (hb:b.size≤maxLen) :
  Calls Tryz.prog 33 #[.slice al l.length cl,.string b,.bool stream] w fun e w'=>QbR w l b stream e w':=by
 have kr:=Qhd l al cl N b stream w hE hN hl hz hb
 have KR:=Qa kr
 clear kr
 go_enter Tryz.func33,Tryz.ntmps33
 go_wp2_with fail
 refine (Q6 KR).mono ?_
 rintro e w1 ⟨s,rfl,hs,hb1⟩
 have HS:=Qa hs
 clear hs
 go_wp2_with fail
 go_ret
 exact ⟨s,rfl,Q6 HS,hb1⟩
def QmZ:ByteArray:=⟨#[0,7,1,0,0,1,0,0,0,0,0,0]⟩
def Qn1:ByteArray:=⟨#[0,7,129,1,0,0,0,0,0,0,0,0]⟩
end Go.Proofs.YtdhobdmhnocbgabGreatDoor
