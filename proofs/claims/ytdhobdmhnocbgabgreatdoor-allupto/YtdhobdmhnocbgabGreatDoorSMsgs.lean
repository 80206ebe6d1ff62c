import Derived.Test.YtdhobdmhnocbgabGreatDoorSRefP
import Derived.Test.YtdhobdmhnocbgabGreatDoorSRecs
namespace Go.Proofs.YtdhobdmhnocbgabGreatDoor.Zr
inductive Tl (s:ByteArray):Nat→Prop
 | root (k:Nat):k+1=s.size→bt s k=0→Tl s k
 | lab (k:Nat):1≤bt s k→bt s k≤63→Tl s (k+1+bt s k)→Tl s k
theorem Tl.lt {s:ByteArray} {k:Nat} (h:Tl s k):k < s.size:=by
 induction h with
 | root k h1 h2=>omega
 | lab k h1 h2 h3 ih=>omega
theorem Q03 (a b:ByteArray) (i:Nat):bt (a++b) i=if i < a.size then bt a i else bt b (i - a.size):=by
 by_cases h:i < a.size
 ·rw [if_pos h]
  have h1:i < (a++b).size:=by rw [ByteArray.size_append]; omega
  rw [←Q10 _ _ h1,←Q10 _ _ h]
  rw [ByteArray.getElem_append_left h]
 ·rw [if_neg h]
  by_cases h2:i < (a++b).size
  ·rw [←Q10 _ _ h2]
   have h3:i - a.size < b.size:=by rw [ByteArray.size_append] at h2; omega
   rw [←Q10 _ _ h3,ByteArray.getElem_append_right (by omega)]
  ·rw [ByteArray.size_append] at h2
   unfold bt
   have h4:b.data.size≤i - a.size:=by show b.size≤_; omega
   have h5:(a++b).data.size≤i:=by show (a++b).size≤_; rw [ByteArray.size_append]; omega
   simp only [Array.getD]
   rw [dif_neg (by omega),dif_neg (by omega)]
theorem Q3b {a b:ByteArray} (h:a.size=b.size) (h2:∀ i,i < a.size→bt a i=bt b i):a=b:=by
 apply ByteArray.ext
 apply Array.ext
 ·exact h
 ·intro i h3 h4
  have:=h2 i h3
  rw [←Q10 a i h3,←Q10 b i h4] at this
  exact UInt8.toNat_inj.1 this
theorem Q2p (b:ByteArray) (i j k:Nat) (h:k < j - i) (hj:j≤b.size):bt (b.extract i j) k=bt b (i+k):=by
 have h1:k < (b.extract i j).size:=by rw [ByteArray.size_extract]; omega
 rw [←Q10 _ _ h1,←Q10 b (i+k) (by omega)]
 simp [ByteArray.getElem_extract]
theorem Q9A (B s:ByteArray) (p k e:Nat) (hk:k≤e) (he:e≤s.size) (hp:p+(e - k)≤B.size) (h:∀ j,k≤j→j < e→bt B (p+(j - k))=bt s j):B.extract p (p+(e - k))=s.extract k e:=by
 apply Q3b
 ·rw [ByteArray.size_extract,ByteArray.size_extract]; omega
 ·intro i hi
  rw [ByteArray.size_extract] at hi
  rw [Q2p B p _ i (by omega) hp,Q2p s k e i (by omega) he]
  have:=h (k+i) (by omega) (by omega)
  rw [show k+i - k=i by omega] at this
  exact this
def Q2c:List (ByteArray × Nat)→ByteArray→Option Nat
 | [],_=>none
 | p :: l,s=>if p.1=s then some p.2 else Q2c l s
theorem Q8f:∀ (K:List (ByteArray × Nat)) (s:ByteArray) (h:Nat),Q2c K s=some h→(s,h)∈K:=by
 intro K
 induction K with
 | nil=>intro s h e; simp [Q2c] at e
 | cons p l ih =>
  intro s h e
  rw [Q2c] at e
  by_cases c:p.1=s
  ·rw [if_pos c] at e
   simp only [Option.some.injEq] at e
   subst c; subst e
   simp
  ·rw [if_neg c] at e
   exact List.mem_cons_of_mem _ (ih s h e)
theorem QcN:∀ (K:List (ByteArray × Nat)) (s:ByteArray) (i:Nat) (hi:i < K.length),(∀ j (hj:j < i),K[j].1≠s)→K[i].1=s→Q2c K s=some K[i].2:=by
 intro K
 induction K with
 | nil=>intro s i hi; simp at hi
 | cons p l ih =>
  intro s i hi h1 h2
  cases i with
  | zero=>simp only [List.getElem_cons_zero] at h2 ⊢; rw [Q2c,if_pos h2]
  | succ i =>
   have h0:=h1 0 (by omega)
   simp only [List.getElem_cons_zero] at h0
   rw [Q2c,if_neg h0]
   simp only [List.getElem_cons_succ] at h2 ⊢
   exact ih s i (by simpa using hi) (fun j hj=>by have:=h1 (j+1) (by omega); simpa using this) h2
theorem Q72:∀ (K:List (ByteArray × Nat)) (s:ByteArray),(∀ j (hj:j < K.length),K[j].1≠s)→Q2c K s=none:=by
 intro K
 induction K with
 | nil=>intro s _; rfl
 | cons p l ih =>
  intro s h1
  have h0:=h1 0 (by simp)
  simp only [List.getElem_cons_zero] at h0
  rw [Q2c,if_neg h0]
  exact ih s (fun j hj=>by have:=h1 (j+1) (by simpa using hj); simpa using this)
theorem Qc1:∀ (K l:List (ByteArray × Nat)) (s:ByteArray),(∀ p,p∈l→p.1≠s)→Q2c (K++l) s=Q2c K s:=by
 intro K
 induction K with
 | nil =>
  intro l s h
  refine Q72 _ _ (fun j hj=>h _ (List.getElem_mem _))
 | cons p K ih =>
  intro l s h
  rw [List.cons_append,Q2c,Q2c,ih l s h]
def wd (n:Nat):ByteArray:=⟨#[UInt8.ofNat (n / 256),UInt8.ofNat (n % 256)]⟩
theorem Q00 (n:Nat):(wd n).size=2:=rfl
theorem Qmt (n:Nat) (h:n < 65536):bt (wd n) 0=n / 256:=by
 show (UInt8.ofNat (n / 256)).toNat=_
 rw [UInt8.toNat_ofNat']; omega
theorem Qmu (n:Nat):bt (wd n) 1=n % 256:=by
 show (UInt8.ofNat (n % 256)).toNat=_
 rw [UInt8.toNat_ofNat']; omega
def Q2b (s:ByteArray) (h:Nat):List (ByteArray × Nat):=if h≤16383 then [(s,h)] else []
def shF (K:List (ByteArray × Nat)) (s:ByteArray) (p:Nat):Nat→Nat→ByteArray × List (ByteArray × Nat)
 | 0,_=>(⟨#[]⟩,[])
 | f+1,k =>
  if s.size < k+2 then (s.extract k s.size,[])
  else match Q2c K (s.extract k s.size) with
   | some to=>(wd (49152+to),[])
   | none=>(s.extract k (k+1+bt s k)++(shF K s p f (k+1+bt s k)).1,Q2b (s.extract k s.size) (p+k)++(shF K s p f (k+1+bt s k)).2)
def Q1p (K:List (ByteArray × Nat)) (s:ByteArray) (p:Nat):ByteArray × List (ByteArray × Nat):=shF K s p (s.size+1) 0
def Inv (Q:Nat→Prop) (B:ByteArray) (K:List (ByteArray × Nat)):Prop :=
 ∀ n h,(n,h)∈K→h≤16383∧h < B.size∧n.size≤255∧∀ B':ByteArray,B.size≤B'.size→(∀ i,i < B.size→¬ Q i→bt B' i=bt B i)→∀ front,front+n.size≤255→∃ t,Q3l B' h h front=.ok (n,t)
theorem Inv.nil (Q:Nat→Prop) (B:ByteArray):Inv Q B []:=fun n h hm=>by simp at hm
theorem Inv.append {Q:Nat→Prop} {B:ByteArray} {K:List (ByteArray × Nat)} (h:Inv Q B K) (s:ByteArray):Inv Q (B++s) K:=by
 intro n k hm
 obtain ⟨h1,h2,h3,h4⟩:=h n k hm
 refine ⟨h1,by rw [ByteArray.size_append]; omega,h3,fun B' hs ha front hf=>?_⟩
 rw [ByteArray.size_append] at hs
 refine h4 B' (by omega) (fun i hi hq=>?_) front hf
 rw [ha i (by rw [ByteArray.size_append]; omega) hq,Q03,if_pos hi]
theorem Inv.open {B:ByteArray} {K:List (ByteArray × Nat)} (h:Inv (fun _=>False) B K) (s:ByteArray):Inv (fun i=>B.size≤i∧i < B.size+s.size) (B++s) K:=by
 intro n k hm
 obtain ⟨h1,h2,h3,h4⟩:=h n k hm
 refine ⟨h1,by rw [ByteArray.size_append]; omega,h3,fun B' hs ha front hf=>?_⟩
 rw [ByteArray.size_append] at hs
 refine h4 B' (by omega) (fun i hi _=>?_) front hf
 rw [ha i (by rw [ByteArray.size_append]; omega) (by omega),Q03,if_pos hi]
theorem Inv.shut {Q:Nat→Prop} {B B2:ByteArray} {K:List (ByteArray × Nat)} (h:Inv Q B K) (hs:B.size=B2.size) (ha:∀ i,i < B.size→¬ Q i→bt B2 i=bt B i):Inv (fun _=>False) B2 K:=by
 intro n k hm
 obtain ⟨h1,h2,h3,h4⟩:=h n k hm
 refine ⟨h1,by omega,h3,fun B' hs' ha' front hf=>?_⟩
 refine h4 B' (by omega) (fun i hi hq=>?_) front hf
 rw [ha' i (by omega) (fun h=>h),ha i hi hq]
theorem Inv.read {Q:Nat→Prop} {B:ByteArray} {K:List (ByteArray × Nat)} (h:Inv Q B K) (n:ByteArray) (k:Nat) (hm:(n,k)∈K):∃ t,Q05 B k=.ok (n,t):=by
 obtain ⟨h1,h2,h3,h4⟩:=h n k hm
 exact h4 B (Nat.le_refl _) (fun _ _ _=>rfl) 0 (by omega)
theorem Qbv (b:ByteArray) (k run front:Nat) (h:k < b.size) (h0:bt b k=0):Q3l b k run front=.ok (⟨#[0]⟩,1):=by
 rw [Q2B,if_neg (by omega),if_pos h0]
theorem Qjc (Q:Nat→Prop) (B:ByteArray) (K:List (ByteArray × Nat)) (s:ByteArray) (hI:Inv Q B K) (h255:s.size≤255):∀ (f k:Nat),s.size < k+f→Tl s k→∀ (B':ByteArray),
  B.size≤B'.size→(∀ i,i < B.size→¬ Q i→bt B' i=bt B i) →
  B.size+k+(shF K s B.size f k).1.size≤B'.size→(∀ j,j < (shF K s B.size f k).1.size→bt B' (B.size+k+j)=bt (shF K s B.size f k).1 j) →
  (∀ run front,B.size≤run→front+(s.size - k)≤255→Q3l B' (B.size+k) run front=.ok (s.extract k s.size,(shF K s B.size f k).1.size)) ∧
  (∀ n h,(n,h)∈(shF K s B.size f k).2→h≤16383∧B.size≤h∧h < B.size+k+(shF K s B.size f k).1.size∧n.size≤255∧∀ front,front+n.size≤255→∃ t,Q3l B' h h front=.ok (n,t)):=by
 intro f
 induction f with
 | zero=>intro k hf ht; have:=ht.lt; omega
 | succ f ih =>
  intro k hf ht B' hB ha
  by_cases c:s.size < k+2
  ·have e1:shF K s B.size (f+1) k=(s.extract k s.size,[]):=by rw [shF,if_pos c]
   rw [e1]
   intro hsz hbt
   have hk:k+1=s.size∧bt s k=0:=by
    cases ht with
    | root _ h1 h2=>exact ⟨h1,h2⟩
    | lab _ h1 h2 h3=>have:=h3.lt; omega
   have hs1:(s.extract k s.size).size=1:=by rw [ByteArray.size_extract]; omega
   rw [hs1] at hsz hbt
   refine ⟨fun run front hr hfr=>?_,fun n h hm=>by simp at hm⟩
   have h0:=hbt 0 (by omega)
   rw [Q2p s k _ 0 (by omega) (Nat.le_refl _),Nat.add_zero,Nat.add_zero,hk.2] at h0
   rw [Qbv _ _ _ _ (by omega) h0,hs1]
   have e2:=Q59 s k (by omega) hk.2
   rw [hk.1] at e2
   rw [e2]
  ·cases hfd:Q2c K (s.extract k s.size) with
   | some to =>
    have e1:shF K s B.size (f+1) k=(wd (49152+to),[]):=by rw [shF,if_neg c,hfd]
    rw [e1]
    simp only [Q00]
    intro hsz hbt
    refine ⟨fun run front hr hfr=>?_,fun n h hm=>by simp at hm⟩
    obtain ⟨g1,g2,g3,g4⟩:=hI _ _ (Q8f K _ to hfd)
    have hse:(s.extract k s.size).size=s.size - k:=by rw [ByteArray.size_extract]; omega
    obtain ⟨t,g5⟩:=g4 B' hB ha front (by omega)
    have b0:=hbt 0 (by omega)
    have b1:=hbt 1 (by omega)
    rw [Qmt _ (by omega),Nat.add_zero] at b0
    rw [Qmu] at b1
    have e2:256 * (bt B' (B.size+k) - 192)+bt B' (B.size+k+1)=to:=by rw [b0,b1]; omega
    rw [Q2B,if_neg (by omega),if_neg (by omega),if_pos (by omega),if_neg (by omega),if_neg (by omega),e2,if_neg (by omega),g5]
   | none =>
    have e1:shF K s B.size (f+1) k=(s.extract k (k+1+bt s k)++(shF K s B.size f (k+1+bt s k)).1,Q2b (s.extract k s.size) (B.size+k)++(shF K s B.size f (k+1+bt s k)).2):=by rw [shF,if_neg c,hfd]
    rw [e1]
    simp only
    intro hsz hbt
    obtain ⟨h1,h2,h3⟩:1≤bt s k∧bt s k≤63∧Tl s (k+1+bt s k):=by
     cases ht with
     | root _ h1 h2=>omega
     | lab _ h1 h2 h3=>exact ⟨h1,h2,h3⟩
    have hlt:=h3.lt
    have hse:(s.extract k (k+1+bt s k)).size=1+bt s k:=by rw [ByteArray.size_extract]; omega
    rw [ByteArray.size_append,hse] at hsz hbt ⊢
    have hi:=ih (k+1+bt s k) (by omega) h3 B' hB ha (by omega) (fun j hj=>by
     have:=hbt (1+bt s k+j) (by omega)
     rw [Q03,if_neg (by omega),hse,show 1+bt s k+j - (1+bt s k)=j by omega] at this
     rw [←this]; congr 1; omega)
    obtain ⟨i1,i2⟩:=hi
    have hl:∀ j,k≤j→j < k+1+bt s k→bt B' (B.size+k+(j - k))=bt s j:=fun j hj1 hj2=>by
     have:=hbt (j - k) (by omega)
     rw [Q03,if_pos (by omega),Q2p s k _ (j - k) (by omega) (by omega),show k+(j - k)=j by omega] at this
     exact this
    have hb0:=hl k (by omega) (by omega)
    rw [Nat.sub_self,Nat.add_zero] at hb0
    have hrd:∀ run front,B.size≤run→front+(s.size - k)≤255→Q3l B' (B.size+k) run front=.ok (s.extract k s.size,1+bt s k+(shF K s B.size f (k+1+bt s k)).1.size):=by
     intro run front hr hfr
     have i3:=i1 run (front+1+bt s k) hr (by omega)
     have e4:=Q9A B' s (B.size+k) k (k+1+bt s k) (by omega) (by omega) (by omega) hl
     rw [show B.size+k+(k+1+bt s k - k)=B.size+k+1+bt s k by omega] at e4
     rw [show B.size+(k+1+bt s k)=B.size+k+1+bt s k by omega] at i3
     rw [Q2B,hb0,if_neg (by omega),if_neg (by omega),if_neg (by omega),if_neg (by omega),if_neg (by omega),i3,e4]
     simp only
     rw [Q1t s k (k+1+bt s k) s.size (by omega) (by omega) (Nat.le_refl _)]
    refine ⟨hrd,fun n h hm=>?_⟩
    rcases List.mem_append.1 hm with hm | hm
    ·unfold Q2b at hm
     by_cases c3:B.size+k≤16383
     ·rw [if_pos c3] at hm
      simp only [List.mem_singleton,Prod.mk.injEq] at hm
      obtain ⟨rfl,rfl⟩:=hm
      have hse2:(s.extract k s.size).size=s.size - k:=by rw [ByteArray.size_extract]; omega
      refine ⟨c3,by omega,by omega,by omega,fun front hfr=>⟨_,hrd _ front (by omega) (by omega)⟩⟩
     ·rw [if_neg c3] at hm; simp at hm
    ·obtain ⟨j1,j2,j3,j4,j5⟩:=i2 n h hm
     exact ⟨j1,j2,by omega,j4,j5⟩
theorem Qao (Q:Nat→Prop) (B:ByteArray) (K:List (ByteArray × Nat)) (s:ByteArray) (hQ:∀ i,Q i→i < B.size) (hI:Inv Q B K) (h255:s.size≤255) (ht:Tl s 0) :
  Inv Q (B++(Q1p K s B.size).1) (K++(Q1p K s B.size).2) ∧
  (∀ B':ByteArray,(B++(Q1p K s B.size).1).size≤B'.size→(∀ i,i < (B++(Q1p K s B.size).1).size→¬ Q i→bt B' i=bt (B++(Q1p K s B.size).1) i)→Q05 B' B.size=.ok (s,(Q1p K s B.size).1.size)):=by
 unfold Q1p
 have key:∀ B':ByteArray,(B++(shF K s B.size (s.size+1) 0).1).size≤B'.size→(∀ i,i < (B++(shF K s B.size (s.size+1) 0).1).size→¬ Q i→bt B' i=bt (B++(shF K s B.size (s.size+1) 0).1) i)→_ :=
  fun B' h1 h2=>Qjc Q B K s hI h255 (s.size+1) 0 (by omega) ht B' (by rw [ByteArray.size_append] at h1; omega)
   (fun i hi hq=>by rw [h2 i (by rw [ByteArray.size_append]; omega) hq,Q03,if_pos hi])
   (by rw [ByteArray.size_append] at h1; omega)
   (fun j hj=>by
    rw [h2 (B.size+0+j) (by rw [ByteArray.size_append]; omega) (fun hq=>by have:=hQ _ hq; omega),Q03,if_neg (by omega)]
    congr 1; omega)
 refine ⟨?_,fun B' h1 h2=>?_⟩
 ·intro n h hm
  rcases List.mem_append.1 hm with hm | hm
  ·exact (hI.append _) n h hm
  ·have k2:=(key _ (Nat.le_refl _) (fun _ _ _=>rfl)).2 n h hm
   refine ⟨k2.1,by rw [ByteArray.size_append]; omega,k2.2.2.2.1,fun B' h1 h2 front hf=>?_⟩
   exact ((key B' h1 h2).2 n h hm).2.2.2.2 front hf
 ·have k1:=(key B' h1 h2).1 B.size 0 (Nat.le_refl _) (by omega)
  have e:s.extract 0 s.size=s:=by apply ByteArray.ext; simp
  rw [e,Nat.add_zero] at k1
  exact k1
theorem Qjr (s:ByteArray):∀ (f k front:Nat),front≤254→∀ (x:ByteArray) (t:Nat),nm s f k 0 front=.ok (x,t)→k+t=s.size→Tl s k:=by
 intro f
 induction f with
 | zero=>intro k front _ x t h; simp [nm] at h
 | succ f ih =>
  intro k front hf x t h he
  rw [nm] at h
  by_cases c0:s.size≤k
  ·rw [if_pos c0] at h; simp at h
  rw [if_neg c0] at h
  by_cases c1:bt s k=0
  ·rw [if_pos c1] at h
   simp only [Except.ok.injEq,Prod.mk.injEq] at h
   exact .root k (by omega) c1
  rw [if_neg c1] at h
  by_cases c2:63 < bt s k
  ·rw [if_pos c2] at h
   by_cases c3:bt s k < 192
   ·rw [if_pos c3] at h; simp at h
   rw [if_neg c3] at h
   by_cases c4:s.size≤k+1
   ·rw [if_pos c4] at h; simp at h
   rw [if_neg c4,if_pos (Nat.zero_le _)] at h
   simp at h
  rw [if_neg c2] at h
  by_cases c3:s.size < k+1+bt s k
  ·rw [if_pos c3] at h; simp at h
  rw [if_neg c3] at h
  by_cases c4:255 < front+1+bt s k+1
  ·rw [if_pos c4] at h; simp at h
  rw [if_neg c4] at h
  have hi:=ih (k+1+bt s k) (front+1+bt s k) (by omega)
  generalize nm s f (k+1+bt s k) 0 (front+1+bt s k)=y at h hi
  cases y with
  | error e=>simp at h
  | ok z =>
   obtain ⟨x',t'⟩:=z
   simp only [Except.ok.injEq,Prod.mk.injEq] at h
   exact .lab k (by omega) (by omega) (hi x' t' rfl (by omega))
theorem Qg8 (s:ByteArray):∀ k,Tl s k→∀ (B:ByteArray) (p run front:Nat),p+(s.size - k)≤B.size→(∀ j,k≤j→j < s.size→bt B (p+(j - k))=bt s j)→front+(s.size - k)≤255 →
  Q3l B p run front=.ok (s.extract k s.size,s.size - k):=by
 intro k ht
 induction ht with
 | root k h1 h2 =>
  intro B p run front hp hb hf
  have h0:=hb k (Nat.le_refl _) (by omega)
  rw [Nat.sub_self,Nat.add_zero,h2] at h0
  rw [Qbv _ _ _ _ (by omega) h0]
  have e2:=Q59 s k (by omega) h2
  rw [h1] at e2
  rw [e2]
  congr 2
  omega
 | lab k h1 h2 h3 ih =>
  intro B p run front hp hb hf
  have hlt:=h3.lt
  have h0:=hb k (Nat.le_refl _) (by omega)
  rw [Nat.sub_self,Nat.add_zero] at h0
  have i3:=ih B (p+1+bt s k) run (front+1+bt s k) (by omega) (fun j hj1 hj2=>by
   have:=hb j (by omega) hj2
   rw [←this]; congr 1; omega) (by omega)
  have e4:=Q9A B s p k (k+1+bt s k) (by omega) (by omega) (by omega) (fun j hj1 hj2=>hb j hj1 (by omega))
  rw [show p+(k+1+bt s k - k)=p+1+bt s k by omega] at e4
  rw [Q2B,h0,if_neg (by omega),if_neg (by omega),if_neg (by omega),if_neg (by omega),if_neg (by omega),i3,e4]
  simp only
  rw [Q1t s k (k+1+bt s k) s.size (by omega) (by omega) (Nat.le_refl _)]
  congr 2
  omega
theorem Q13 (s:ByteArray):s.extract 0 s.size=s:=by apply ByteArray.ext; simp
theorem Q3k (s:ByteArray):Q09 s=true↔Tl s 0∧s.size≤255:=by
 constructor
 ·intro h
  unfold Q09 at h
  cases hx:Q05 s 0 with
  | error e=>rw [hx] at h; simp at h
  | ok z =>
   obtain ⟨x,t⟩:=z
   rw [hx] at h
   simp only [Bool.and_eq_true,beq_iff_eq,decide_eq_true_eq] at h
   obtain ⟨rfl,rfl⟩:=h
   have hb:=Q0F x 0 x x.size hx
   exact ⟨Qjr x _ 0 0 (by omega) x x.size hx (by omega),hb.2.2⟩
 ·intro ⟨h1,h2⟩
  have h3:=Qg8 s 0 h1 s 0 0 0 (by omega) (fun j _ hj=>by congr 1; omega) (by omega)
  rw [Q13] at h3
  unfold Q09
  have h4:Q05 s 0=.ok (s,s.size - 0):=h3
  rw [h4]
  simp
def q4 (n:Nat):ByteArray:=wd (n / 65536)++wd (n % 65536)
theorem Q2C (n:Nat):(q4 n).size=4:=by unfold q4; rw [ByteArray.size_append,Q00,Q00]
theorem Tl.shift (a:ByteArray) {s:ByteArray} {k:Nat} (h:Tl s k):Tl (a++s) (a.size+k):=by
 induction h with
 | root k h1 h2 =>
  refine .root _ (by rw [ByteArray.size_append]; omega) ?_
  rw [Q03,if_neg (by omega),show a.size+k - a.size=k by omega,h2]
 | lab k h1 h2 h3 ih =>
  have e:bt (a++s) (a.size+k)=bt s k:=by rw [Q03,if_neg (by omega),show a.size+k - a.size=k by omega]
  refine .lab _ (by omega) (by omega) ?_
  rw [e,show a.size+k+1+bt s k=a.size+(k+1+bt s k) by omega]
  exact ih
theorem Ql5 (b:ByteArray):∀ (f k run front:Nat) (x:ByteArray) (t:Nat),nm b f k run front=.ok (x,t)→Tl x 0∧(x.size=1∨3≤x.size):=by
 intro f
 induction f with
 | zero=>intro k run front x t h; simp [nm] at h
 | succ f ih =>
  intro k run front x t h
  rw [nm] at h
  by_cases c0:b.size≤k
  ·rw [if_pos c0] at h; simp at h
  rw [if_neg c0] at h
  by_cases c1:bt b k=0
  ·rw [if_pos c1] at h
   simp only [Except.ok.injEq,Prod.mk.injEq] at h
   obtain ⟨rfl,_⟩:=h
   exact ⟨.root 0 rfl rfl,.inl rfl⟩
  rw [if_neg c1] at h
  by_cases c2:63 < bt b k
  ·rw [if_pos c2] at h
   by_cases c3:bt b k < 192
   ·rw [if_pos c3] at h; simp at h
   rw [if_neg c3] at h
   by_cases c4:b.size≤k+1
   ·rw [if_pos c4] at h; simp at h
   rw [if_neg c4] at h
   by_cases c5:run≤256 * (bt b k - 192)+bt b (k+1)
   ·rw [if_pos c5] at h; simp at h
   rw [if_neg c5] at h
   have hi:=ih (256 * (bt b k - 192)+bt b (k+1)) (256 * (bt b k - 192)+bt b (k+1)) front
   generalize nm b f (256 * (bt b k - 192)+bt b (k+1)) (256 * (bt b k - 192)+bt b (k+1)) front=y at h hi
   cases y with
   | error e=>simp at h
   | ok z =>
    obtain ⟨x',t'⟩:=z
    simp only [Except.ok.injEq,Prod.mk.injEq] at h
    obtain ⟨rfl,_⟩:=h
    exact hi x' t' rfl
  rw [if_neg c2] at h
  by_cases c3:b.size < k+1+bt b k
  ·rw [if_pos c3] at h; simp at h
  rw [if_neg c3] at h
  by_cases c4:255 < front+1+bt b k+1
  ·rw [if_pos c4] at h; simp at h
  rw [if_neg c4] at h
  have hi:=ih (k+1+bt b k) run (front+1+bt b k)
  generalize nm b f (k+1+bt b k) run (front+1+bt b k)=y at h hi
  cases y with
  | error e=>simp at h
  | ok z =>
   obtain ⟨x',t'⟩:=z
   simp only [Except.ok.injEq,Prod.mk.injEq] at h
   obtain ⟨rfl,_⟩:=h
   have hse:(b.extract k (k+1+bt b k)).size=1+bt b k:=by rw [ByteArray.size_extract]; omega
   obtain ⟨h1,h2⟩:=hi x' t' rfl
   refine ⟨?_,.inr (by rw [ByteArray.size_append]; omega)⟩
   have e0:bt (b.extract k (k+1+bt b k)++x') 0=bt b k:=by rw [Q03,if_pos (by omega),Q2p b k _ 0 (by omega) (by omega)]; rfl
   refine .lab 0 (by omega) (by omega) ?_
   have h3:=h1.shift (b.extract k (k+1+bt b k))
   rw [hse] at h3
   rw [e0,show 0+1+bt b k=1+bt b k+0 by omega]
   exact h3
theorem Q1G (b:ByteArray) (k:Nat) (x:ByteArray) (t:Nat) (h:Q05 b k=.ok (x,t)):Q09 x=true :=
 (Q3k x).2 ⟨(Ql5 b _ k k 0 x t h).1,(Q0F b k x t h).2.2⟩
theorem QiL (b:ByteArray):∀ (f k run front:Nat) (x:ByteArray) (t:Nat),nm b f k run front=.ok (x,t)→x.size=t→nm b f k 0 front=.ok (x,t):=by
 intro f
 induction f with
 | zero=>intro k run front x t h; simp [nm] at h
 | succ f ih =>
  intro k run front x t h hs
  have htl:=Ql5 b (f+1) k run front x t h
  rw [nm] at h ⊢
  by_cases c0:b.size≤k
  ·rw [if_pos c0] at h; simp at h
  rw [if_neg c0] at h ⊢
  by_cases c1:bt b k=0
  ·rw [if_pos c1] at h ⊢; exact h
  rw [if_neg c1] at h ⊢
  by_cases c2:63 < bt b k
  ·rw [if_pos c2] at h
   by_cases c3:bt b k < 192
   ·rw [if_pos c3] at h; simp at h
   rw [if_neg c3] at h
   by_cases c4:b.size≤k+1
   ·rw [if_pos c4] at h; simp at h
   rw [if_neg c4] at h
   by_cases c5:run≤256 * (bt b k - 192)+bt b (k+1)
   ·rw [if_pos c5] at h; simp at h
   rw [if_neg c5] at h
   generalize nm b f (256 * (bt b k - 192)+bt b (k+1)) (256 * (bt b k - 192)+bt b (k+1)) front=y at h
   cases y with
   | error e=>simp at h
   | ok z =>
    obtain ⟨x',t'⟩:=z
    simp only [Except.ok.injEq,Prod.mk.injEq] at h
    omega
  rw [if_neg c2] at h ⊢
  by_cases c3:b.size < k+1+bt b k
  ·rw [if_pos c3] at h; simp at h
  rw [if_neg c3] at h ⊢
  by_cases c4:255 < front+1+bt b k+1
  ·rw [if_pos c4] at h; simp at h
  rw [if_neg c4] at h ⊢
  have hi:=ih (k+1+bt b k) run (front+1+bt b k)
  generalize nm b f (k+1+bt b k) run (front+1+bt b k)=y at h hi
  cases y with
  | error e=>simp at h
  | ok z =>
   obtain ⟨x',t'⟩:=z
   simp only [Except.ok.injEq,Prod.mk.injEq] at h
   obtain ⟨rfl,rfl⟩:=h
   have hse:(b.extract k (k+1+bt b k)).size=1+bt b k:=by rw [ByteArray.size_extract]; omega
   rw [ByteArray.size_append,hse] at hs
   rw [hi x' t' rfl (by omega)]
theorem Qd5 (b:ByteArray):∀ (f k front:Nat) (x:ByteArray) (t:Nat),nm b f k 0 front=.ok (x,t)→x=b.extract k (k+t)∧k+t≤b.size:=by
 intro f
 induction f with
 | zero=>intro k front x t h; simp [nm] at h
 | succ f ih =>
  intro k front x t h
  rw [nm] at h
  by_cases c0:b.size≤k
  ·rw [if_pos c0] at h; simp at h
  rw [if_neg c0] at h
  by_cases c1:bt b k=0
  ·rw [if_pos c1] at h
   simp only [Except.ok.injEq,Prod.mk.injEq] at h
   obtain ⟨rfl,rfl⟩:=h
   exact ⟨(Q59 b k (by omega) c1).symm,by omega⟩
  rw [if_neg c1] at h
  by_cases c2:63 < bt b k
  ·rw [if_pos c2] at h
   by_cases c3:bt b k < 192
   ·rw [if_pos c3] at h; simp at h
   rw [if_neg c3] at h
   by_cases c4:b.size≤k+1
   ·rw [if_pos c4] at h; simp at h
   rw [if_neg c4,if_pos (Nat.zero_le _)] at h
   simp at h
  rw [if_neg c2] at h
  by_cases c3:b.size < k+1+bt b k
  ·rw [if_pos c3] at h; simp at h
  rw [if_neg c3] at h
  by_cases c4:255 < front+1+bt b k+1
  ·rw [if_pos c4] at h; simp at h
  rw [if_neg c4] at h
  have hi:=ih (k+1+bt b k) (front+1+bt b k)
  generalize nm b f (k+1+bt b k) 0 (front+1+bt b k)=y at h hi
  cases y with
  | error e=>simp at h
  | ok z =>
   obtain ⟨x',t'⟩:=z
   simp only [Except.ok.injEq,Prod.mk.injEq] at h
   obtain ⟨rfl,rfl⟩:=h
   obtain ⟨h1,h2⟩:=hi x' t' rfl
   refine ⟨?_,by omega⟩
   rw [h1,Q1t b k _ _ (by omega) (by omega) (by omega)]
   congr 1
   omega
theorem Qc7 (a x c:ByteArray) (h:Q09 x=true):Q05 (a++x++c) a.size=.ok (x,x.size):=by
 obtain ⟨h1,h2⟩:=(Q3k x).1 h
 have h3:=Qg8 x 0 h1 (a++x++c) a.size a.size 0 (by rw [ByteArray.size_append,ByteArray.size_append]; omega) (fun j _ hj=>by
  rw [Q03,if_pos (by rw [ByteArray.size_append]; omega),Q03,if_neg (by omega)]
  congr 1; omega) (by omega)
 rw [Q13] at h3
 exact h3
theorem Q3N (x c:ByteArray) (h:Q09 x=true):Q05 (x++c) 0=.ok (x,x.size):=by
 have:=Qc7 ⟨#[]⟩ x c h
 rw [empty_append] at this
 exact this
theorem Q4y (s x:ByteArray) (t:Nat) (h:Q05 s 0=.ok (x,t)):x=s.extract 0 t∧t≤s.size∧x.size=t∧Q09 x=true∧1≤t∧t≤255:=by
 have h1:=Qd5 s _ 0 0 x t h
 have h2:=Q0F s 0 x t h
 have h3:x.size=t:=by rw [h1.1,ByteArray.size_extract]; omega
 refine ⟨by simpa using h1.1,by omega,h3,Q1G s 0 x t h,h2.1,by omega⟩
def Q1u (s:ByteArray):Nat:=match Q05 s 0 with
 | .ok (_,t)=>t
 | .error _=>0
theorem Q82 (s:ByteArray) (n:Nat) (h:n≤s.size):s=s.extract 0 n++s.extract n s.size:=by
 rw [Q1t s 0 n s.size (Nat.zero_le _) h (Nat.le_refl _),Q13]
theorem Q63 (s:ByteArray) (n:Nat) (hn:1≤n) (h:n≤s.size):Q09 (s.extract 0 n)=true↔Q1u s=n:=by
 constructor
 ·intro hw
  have h1:=Q3N (s.extract 0 n) (s.extract n s.size) hw
  rw [←Q82 s n h] at h1
  unfold Q1u
  rw [h1]
  show (s.extract 0 n).size=n
  rw [ByteArray.size_extract]; omega
 ·intro hl
  unfold Q1u at hl
  cases hx:Q05 s 0 with
  | error e=>rw [hx] at hl; simp at hl; omega
  | ok z =>
   obtain ⟨x,t⟩:=z
   rw [hx] at hl
   simp only at hl
   subst hl
   obtain ⟨h1,h2,h3,h4,h5,h6⟩:=Q4y s x t hx
   rw [←h1]; exact h4
theorem Q4f (s:ByteArray):Q1u s≤s.size∧Q1u s≤255:=by
 unfold Q1u
 cases hx:Q05 s 0 with
 | error e=>exact ⟨Nat.zero_le _,Nat.zero_le _⟩
 | ok z =>
  obtain ⟨x,t⟩:=z
  obtain ⟨h1,h2,h3,h4,h5,h6⟩:=Q4y s x t hx
  exact ⟨h2,h6⟩
theorem QkT {s:ByteArray} {k:Nat} (h:Tl s k):bt s (s.size - 1)=0:=by
 induction h with
 | root k h1 h2=>rw [show s.size - 1=k by omega]; exact h2
 | lab k h1 h2 h3 ih=>exact ih
theorem QgK (s:ByteArray) (h:1≤Q1u s):bt s (Q1u s - 1)=0:=by
 have h1:=Q4f s
 have h2:=(Q63 s (Q1u s) h h1.1).2 rfl
 have h3:=QkT ((Q3k _).1 h2).1
 have h4:(s.extract 0 (Q1u s)).size=Q1u s:=by rw [ByteArray.size_extract]; omega
 rw [h4,Q2p s 0 _ _ (by omega) h1.1,Nat.zero_add] at h3
 exact h3
theorem Q6w (x c:ByteArray) (h:Q09 x=true):Q1u (x++c)=x.size:=by
 unfold Q1u
 rw [Q3N x c h]
theorem Q1j {x:ByteArray} (h:Q09 x=true):1≤x.size∧x.size≤255:=by
 obtain ⟨h1,h2⟩:=(Q3k x).1 h
 have:=h1.lt
 exact ⟨by omega,h2⟩
def Q1Y (t:Nat) (d:ByteArray):Prop:=d.size≤65535∧Q1n d 0 d.size t=some d
theorem QcB (a b c:ByteArray) (h:a++b=a++c):b=c:=by
 have hs:b.size=c.size:=by
  have:=congrArg ByteArray.size h
  rw [ByteArray.size_append,ByteArray.size_append] at this
  omega
 apply Q3b hs
 intro i hi
 have:=congrArg (fun x=>bt x (a.size+i)) h
 simp only [Q03] at this
 rw [if_neg (by omega),if_neg (by omega),show a.size+i - a.size=i by omega] at this
 exact this
theorem Qm4 (d:ByteArray):wn d 0 d.size 1 0=some d↔Q09 d=true:=by
 unfold wn
 simp only [Q0b]
 constructor
 ·intro h
  cases hx:Q05 d 0 with
  | error e=>rw [hx] at h; simp at h
  | ok z =>
   obtain ⟨x,t⟩:=z
   rw [hx] at h
   obtain ⟨h1,h2,h3,h4,h5,h6⟩:=Q4y d x t hx
   simp only at h
   by_cases c:0+t+0=0+d.size
   ·have e:d.extract 0 t=d:=by rw [show t=d.size by omega,Q13]
    rw [h1,e] at h4
    exact h4
   ·rw [if_neg c] at h; simp at h
 ·intro h
  have h1:=Q3N d ⟨#[]⟩ h
  have e:d++(⟨#[]⟩:ByteArray)=d:=by apply ByteArray.ext; simp [ByteArray.data_append]
  rw [e] at h1
  rw [h1]
  simp only
  rw [if_pos (by omega),empty_append,Nat.zero_add,Nat.add_zero,Q2z,e]
theorem Qm5 (d:ByteArray):wn d 0 d.size 2 20=some d↔∃ x y r,d=x++y++r∧Q09 x=true∧Q09 y=true∧r.size=20:=by
 unfold wn
 simp only [Q0b]
 constructor
 ·intro h
  cases hx:Q05 d 0 with
  | error e=>rw [hx] at h; simp at h
  | ok z =>
   obtain ⟨x,t⟩:=z
   rw [hx] at h
   obtain ⟨h1,h2,h3,h4,h5,h6⟩:=Q4y d x t hx
   simp only [Nat.zero_add,empty_append] at h
   cases hy:Q05 d t with
   | error e=>rw [hy] at h; simp at h
   | ok z =>
    obtain ⟨y,u⟩:=z
    rw [hy] at h
    simp only at h
    have hb:=Q0F d t y u hy
    by_cases c:t+u+20=d.size
    ·rw [if_pos c] at h
     simp only [Option.some.injEq] at h
     refine ⟨x,y,d.extract (t+u) (t+u+20),h.symm,h4,Q1G d t y u hy,by rw [ByteArray.size_extract]; omega⟩
    ·rw [if_neg c] at h; simp at h
 ·intro ⟨x,y,r,hd,hx,hy,hr⟩
  have h1:=Q3N x (y++r) hx
  rw [←Q07,←hd] at h1
  have h2:=Qc7 x y r hy
  rw [←hd] at h2
  have hs:d.size=x.size+y.size+20:=by rw [hd,ByteArray.size_append,ByteArray.size_append,hr]
  rw [h1]
  simp only [Nat.zero_add,empty_append]
  rw [h2]
  simp only
  rw [if_pos (by omega)]
  congr 1
  have e:d.extract (x.size+y.size) (x.size+y.size+20)=r:=by
   have h3:=Q82 d (x.size+y.size) (by omega)
   have h4:d.extract 0 (x.size+y.size)=x++y:=by
    apply Q3b
    ·rw [ByteArray.size_extract,ByteArray.size_append]; omega
    ·intro i hi
     rw [ByteArray.size_extract] at hi
     rw [Q2p d 0 _ i (by omega) (by omega),hd,Q03,if_pos (by rw [ByteArray.size_append]; omega),Nat.zero_add]
   rw [h4] at h3
   have h5:x++y++r=x++y++d.extract (x.size+y.size) d.size:=hd ▸ h3
   have h6:=QcB _ _ _ h5
   rw [h6,hs]
  rw [e,hd]
theorem Q5c (d:ByteArray) (t:Nat) (h:t=2∨t=5∨t=12):Q1Y t d↔Q09 d=true:=by
 unfold Q1Y Q1n
 rw [if_pos h,Qm4]
 constructor
 ·exact fun h=>h.2
 ·intro h
  have:=Q1j h
  exact ⟨by omega,h⟩
theorem Q6I (d:ByteArray):Q1Y 6 d↔∃ x y r,d=x++y++r∧Q09 x=true∧Q09 y=true∧r.size=20:=by
 unfold Q1Y Q1n
 rw [if_neg (by omega),if_pos rfl,Qm5]
 constructor
 ·exact fun h=>h.2
 ·intro h
  refine ⟨?_,h⟩
  obtain ⟨x,y,r,hd,hx,hy,hr⟩:=h
  have h1:=Q1j hx
  have h2:=Q1j hy
  rw [hd,ByteArray.size_append,ByteArray.size_append,hr]
  omega
theorem Q3S (d:ByteArray) (t:Nat) (h:¬ (t=2∨t=5∨t=12)) (h6:t≠6):Q1Y t d↔d.size≤65535∧Q2q t d=true:=by
 unfold Q1Y Q1n
 rw [if_neg h,if_neg h6,Nat.zero_add,Q13]
 by_cases c:Q2q t d=true
 ·rw [if_pos c]; simp [c]
 ·rw [if_neg c]; simp [c]
theorem QiB (d:ByteArray):Q09 d=true↔Q1u d≠0∧d.size - Q1u d=0:=by
 have h1:=Q4f d
 constructor
 ·intro h
  have h2:=Q6w d ⟨#[]⟩ h
  have e:d++(⟨#[]⟩:ByteArray)=d:=by apply ByteArray.ext; simp [ByteArray.data_append]
  rw [e] at h2
  have:=Q1j h
  omega
 ·intro ⟨h2,h3⟩
  have h4:=(Q63 d (Q1u d) (by omega) h1.1).2 rfl
  rw [show Q1u d=d.size by omega,Q13] at h4
  exact h4
theorem Q5m (x c:ByteArray):(x++c).extract x.size (x++c).size=c:=by
 apply Q3b
 ·rw [ByteArray.size_extract,ByteArray.size_append]; omega
 ·intro i hi
  rw [ByteArray.size_extract,ByteArray.size_append] at hi
  rw [Q2p _ _ _ i (by rw [ByteArray.size_append]; omega) (Nat.le_refl _),Q03,if_neg (by omega)]
  congr 1; omega
theorem QiC (d:ByteArray):(∃ x y r,d=x++y++r∧Q09 x=true∧Q09 y=true∧r.size=20) ↔
  Q1u d≠0∧Q1u (d.extract (Q1u d) d.size)≠0∧d.size - Q1u d - Q1u (d.extract (Q1u d) d.size)=20:=by
 have h1:=Q4f d
 constructor
 ·intro ⟨x,y,r,hd,hx,hy,hr⟩
  have h2:=Q6w x (y++r) hx
  rw [←Q07,←hd] at h2
  have h3:d.extract x.size d.size=y++r:=by rw [hd,Q07]; exact Q5m x (y++r)
  have h4:=Q6w y r hy
  have h5:=Q1j hx
  have h6:=Q1j hy
  have hs:d.size=x.size+y.size+20:=by rw [hd,ByteArray.size_append,ByteArray.size_append,hr]
  rw [h2,h3,h4]
  omega
 ·intro ⟨h2,h3,h4⟩
  have h5:=(Q63 d (Q1u d) (by omega) h1.1).2 rfl
  have h6:=Q4f (d.extract (Q1u d) d.size)
  have h7:=(Q63 _ (Q1u (d.extract (Q1u d) d.size)) (by omega) h6.1).2 rfl
  have h8:(d.extract (Q1u d) d.size).size=d.size - Q1u d:=by rw [ByteArray.size_extract]; omega
  refine ⟨_,_,(d.extract (Q1u d) d.size).extract (Q1u (d.extract (Q1u d) d.size)) (d.extract (Q1u d) d.size).size,?_,h5,h7,by rw [ByteArray.size_extract]; omega⟩
  rw [Q07,←Q82 _ _ h6.1,←Q82 d _ h1.1]
theorem QgS (s t:ByteArray) (k:Nat) (h:Q05 s 0=.ok (t,k)):t=s↔Q09 s=true:=by
 obtain ⟨h1,h2,h3,h4,h5,h6⟩:=Q4y s t k h
 constructor
 ·intro e; rw [e] at h4; exact h4
 ·intro hw
  have h7:=Q3N s ⟨#[]⟩ hw
  have e:s++(⟨#[]⟩:ByteArray)=s:=by apply ByteArray.ext; simp [ByteArray.data_append]
  rw [e,h] at h7
  simp only [Except.ok.injEq,Prod.mk.injEq] at h7
  exact h7.1
structure QI where
 name:ByteArray
 ty:Int
 cl:Int
structure RI where
 name:ByteArray
 ty:Int
 cl:Int
 ttl:Int
 data:ByteArray
structure MI where
 id:Int
 flags:Int
 q:List QI
 a:List RI
 u:List RI
 x:List RI
def Q1J (n:Int):Prop:=0≤n∧n≤65535
def Q2l (x:RI):Prop:=Q09 x.name=true∧Q1J x.ty∧Q1J x.cl∧(0≤x.ttl∧x.ttl≤4294967295)∧Q1Y x.ty.toNat x.data
def Q5S (l:List RI) (x:RI) (part:Nat):Prop:=x.ty=41∧((∃ y,y∈l∧y.ty=41)∨part≠2∨x.name≠⟨#[0]⟩)
def Q1H (l:List RI) (part:Nat):Prop:=l.length≤65535∧∀ i (h:i < l.length),Q2l l[i]∧¬ Q5S (l.take i) l[i] part
def Q2J (q:QI):Prop:=Q09 q.name=true∧Q1J q.ty∧Q1J q.cl
def Q7a (l:List QI):Prop:=l.length≤65535∧∀ i (h:i < l.length),Q2J l[i]
def Q1A (m:MI):Prop:=Q1J m.id∧Q1J m.flags∧Q7a m.q∧Q1H m.a 0∧Q1H m.u 1∧Q1H m.x 2
def QI.nat (q:QI):Qs:=⟨q.name,q.ty.toNat,q.cl.toNat⟩
def RI.nat (x:RI):Rc:=⟨x.name,x.ty.toNat,x.cl.toNat,x.ttl.toNat,x.data⟩
def MI.nat (m:MI):Msg:=⟨m.id.toNat,m.flags.toNat,m.q.map QI.nat,m.a.map RI.nat,m.u.map RI.nat,m.x.map RI.nat⟩
def Qs.int (q:Qs):QI:=⟨q.name,q.ty,q.cl⟩
def Rc.int (x:Rc):RI:=⟨x.name,x.ty,x.cl,x.ttl,x.data⟩
def Msg.int (m:Msg):MI:=⟨m.id,m.flags,m.q.map Qs.int,m.a.map Rc.int,m.u.map Rc.int,m.x.map Rc.int⟩
def Q01 (t:Nat):Nat:=if t=2∨t=5∨t=12 then 1 else if t=6 then 2 else 0
def Q1I (t:Nat):Nat:=if t=2∨t=5∨t=12 then 0 else if t=6 then 20 else 0
def Q0m (K:List (ByteArray × Nat)) (d:ByteArray) (p:Nat):Nat→ByteArray × List (ByteArray × Nat) × Nat
 | 0=>(⟨#[]⟩,K,0)
 | i+1=>match Q05 d (Q0m K d p i).2.2 with
  | .ok (x,t)=>((Q0m K d p i).1++(Q1p (Q0m K d p i).2.1 x (p+(Q0m K d p i).1.size)).1,(Q0m K d p i).2.1++(Q1p (Q0m K d p i).2.1 x (p+(Q0m K d p i).1.size)).2,(Q0m K d p i).2.2+t)
  | .error _=>Q0m K d p i
def Q1B (K:List (ByteArray × Nat)) (d:ByteArray) (t p:Nat):ByteArray × List (ByteArray × Nat) :=
 ((Q0m K d p (Q01 t)).1++d.extract (Q0m K d p (Q01 t)).2.2 d.size,(Q0m K d p (Q01 t)).2.1)
abbrev St:=ByteArray × List (ByteArray × Nat)
def Q30 (st:St) (s:ByteArray):St:=(st.1++(Q1p st.2 s st.1.size).1,st.2++(Q1p st.2 s st.1.size).2)
def Q2o (st:St) (s:ByteArray):St:=(st.1++s,st.2)
def Qb5 (st:St) (q:Qs):St:=Q2o (Q2o (Q30 st q.name) (wd q.ty)) (wd q.cl)
def Q1s (st:St) (x:Rc):St:=Q2o (Q2o (Q2o (Q2o (Q30 st x.name) (wd x.ty)) (wd x.cl)) (wd (x.ttl / 65536))) (wd (x.ttl % 65536))
def Q6K (st:St) (x:Rc):St :=
 ((Q1s st x).1++wd (Q1B (Q1s st x).2 x.data x.ty ((Q1s st x).1.size+2)).1.size++(Q1B (Q1s st x).2 x.data x.ty ((Q1s st x).1.size+2)).1,(Q1B (Q1s st x).2 x.data x.ty ((Q1s st x).1.size+2)).2)
def Q0J (st:St) (q:Qs):St:=if 65535 < st.1.size then st else Qb5 st q
def Q08 (st:St) (x:Rc):St:=if 65535 < st.1.size then st else Q6K st x
def Q3G (m:Msg):St:=(wd m.id++wd m.flags++wd m.q.length++wd m.a.length++wd m.u.length++wd m.x.length,[])
def Q3m (m:Msg):St:=m.x.foldl Q08 (m.u.foldl Q08 (m.a.foldl Q08 (m.q.foldl Q0J (Q3G m))))
def SerIs (m:MI) (s:ByteArray) (e:Int):Prop :=
 (¬ Q1A m∧s=⟨#[]⟩∧e=7)∨(Q1A m∧65535 < (Q3m m.nat).1.size∧s=⟨#[]⟩∧e=1)∨(Q1A m∧¬ 65535 < (Q3m m.nat).1.size∧s=(Q3m m.nat).1∧e=0)
theorem SerIs.same {m:MI} {s t:ByteArray} {e f:Int} (h:SerIs m s e) (k:SerIs m t f):s=t∧e=f:=by
 rcases h with ⟨h1,h2,h3⟩ | ⟨h1,h2,h3,h4⟩ | ⟨h1,h2,h3,h4⟩ <;> rcases k with ⟨k1,k2,k3⟩ | ⟨k1,k2,k3,k4⟩ | ⟨k1,k2,k3,k4⟩
 ·exact ⟨h2.trans k2.symm,h3.trans k3.symm⟩
 ·exact absurd k1 h1
 ·exact absurd k1 h1
 ·exact absurd h1 k1
 ·exact ⟨h3.trans k3.symm,h4.trans k4.symm⟩
 ·exact absurd h2 k2
 ·exact absurd h1 k1
 ·exact absurd k2 h2
 ·exact ⟨h3.trans k3.symm,h4.trans k4.symm⟩
theorem Q5o {α:Type} (g:St→α→St) (hg:∀ st x,65535 < st.1.size→g st x=st) (st:St) (h:65535 < st.1.size):∀ l:List α,l.foldl g st=st:=by
 intro l
 induction l with
 | nil=>rfl
 | cons x l ih=>rw [List.foldl_cons,hg st x h,ih]
theorem Qas (st:St) (q:Qs) (h:65535 < st.1.size):Q0J st q=st:=by unfold Q0J; rw [if_pos h]
theorem Qat (st:St) (x:Rc) (h:65535 < st.1.size):Q08 st x=st:=by unfold Q08; rw [if_pos h]
theorem Q9c {α β:Type} (g:St→β→St) (f:α→β) (l:List α) (st:St) (i:Nat) (h:i < l.length):((l.take (i+1)).map f).foldl g st=g (((l.take i).map f).foldl g st) (f l[i]):=by
 rw [List.take_succ_eq_append_getElem h,List.map_append,List.foldl_append]
 rfl
theorem Q6t {α β:Type} (g:St→β→St) (f:α→β) (l:List α) (st:St) (i:Nat):(l.map f).foldl g st=((l.drop i).map f).foldl g (((l.take i).map f).foldl g st):=by
 conv=>lhs; rw [←List.take_append_drop i l]
 rw [List.map_append,List.foldl_append]
def QmY (st:St):Prop:=st.2.length≤st.1.size∧∀ q,q∈st.2→q.2≤16383
end Go.Proofs.YtdhobdmhnocbgabGreatDoor.Zr
