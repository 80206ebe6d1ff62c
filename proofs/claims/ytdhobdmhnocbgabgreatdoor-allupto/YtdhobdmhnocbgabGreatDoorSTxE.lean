import Derived.Test.YtdhobdmhnocbgabGreatDoorSRwC
import Derived.Test.YtdhobdmhnocbgabGreatDoorSSerW
import Derived.Test.YtdhobdmhnocbgabGreatDoorSLawF
import Derived.Test.YtdhobdmhnocbgabGreatDoorSKeepA
import Derived.Test.YtdhobdmhnocbgabGreatDoorSAnyB
namespace Go.Proofs.YtdhobdmhnocbgabGreatDoor
open Go.RowKit Zr
def hiS (n:Nat):Nat→ByteArray
 | 0=>⟨#[]⟩
 | i+1=>⟨#[UInt8.ofNat (n / 256 ^ i % 256)]⟩++hiS n i
theorem Qil (n:Nat):∀ i,(hiS n i).size=i:=by
 intro i
 induction i with
 | zero=>rfl
 | succ i ih=>rw [hiS,ByteArray.size_append,ih]; show 1+i=_; omega
theorem Qkd (n:Nat) (h:n < 65536):hiS n 2=wd n:=by
 apply ByteArray.ext
 simp only [hiS,wd,ByteArray.data_append]
 have e:n / 256 ^ 1 % 256=n / 256:=by omega
 have e2:n / 256 ^ 0 % 256=n % 256:=by simp
 rw [e,e2]
 rfl
theorem Qik (n:Nat) (h:n < 4294967296):hiS n 4=wd (n / 65536)++wd (n % 65536):=by
 apply ByteArray.ext
 simp only [hiS,wd,ByteArray.data_append]
 have e1:n / 256 ^ 3 % 256=n / 65536 / 256:=by omega
 have e2:n / 256 ^ 2 % 256=n / 65536 % 256:=by omega
 have e3:n / 256 ^ 1 % 256=n % 65536 / 256:=by omega
 have e4:n / 256 ^ 0 % 256=n % 65536 % 256:=by omega
 rw [e1,e2,e3,e4]
 rfl
theorem Qgw (w:World) (n:Nat):(w.alloc (.cells #[.int .u8 ((n:Int) % 256)] 5)).ownsRow w.heap.size 5 1 (.slice (some ⟨w.heap.size,0,none⟩) 1 1) (⟨#[UInt8.ofNat (n % 256)]⟩:ByteArray).size (byteCells ⟨#[UInt8.ofNat (n % 256)]⟩):=by
 refine ⟨rfl,.inr ⟨w.heap.size,1,_,rfl,Nat.le_refl _,heap_alloc_new _ _,Nat.le_refl _,by decide,rfl,?_⟩⟩
 have e:byteCells ⟨#[UInt8.ofNat (n % 256)]⟩=[.int .u8 (((UInt8.ofNat (n % 256)).toNat:Nat):Int)]:=rfl
 rw [e,UInt8.toNat_ofNat']
 show [_]=_
 congr 2
 omega
set_option maxRecDepth 100000 in
set_option maxHeartbeats 1000000 in
theorem Qio (n k:Nat) (w:World) (hn:n < 4294967296) (hk:k≤4) :
  Calls Tryz.prog 50 #[.int .i64 n,.int .i64 k] w fun e w'=>e=.returned (.string (hiS n k))∧Below w.heap.size w w':=by
 go_enter Tryz.func50,Tryz.ntmps50
 go_wp2_with fail
 go_loopw [0,5,6] (fun a s i w'=>∃ (j m:Nat),j≤k∧a=.int .i64 m∧m < 4294967296∧Hid (m=n / 256 ^ j)∧s=.string (hiS n j)∧i=.int .i64 j∧Hid (Below w.heap.size w w')) (fun _ _ i _=>k - (intOf i).toNat)
 case atStart=>exact ⟨0,n,Nat.zero_le _,rfl,hn,by show _=_; simp,rfl,rfl,Below.refl _ _⟩
 case round =>
  obtain ⟨j,m,hj,rfl,hm,hme,rfl,rfl,hB⟩:=hrel
  have hz:=Qil n j
  by_cases cj:j < k
  ·have hnx:hiS n (j+1)=⟨#[UInt8.ofNat (m % 256)]⟩++hiS n j:=by rw [hiS,←Q6 hme]
   have hmx:m / 256=n / 256 ^ (j+1):=by rw [Q6 hme,Nat.pow_succ,Nat.div_div_eq_div_mul]
   have HNx:=Qa hnx
   have HMx:=Qa hmx
   have hone:(⟨#[UInt8.ofNat (m % 256)]⟩:ByteArray).size=1:=rfl
   clear hnx hmx
   generalize hiS n j=s at *
   go_wp2_with fail
   rw [Q1v _ 128 9 5 Tryz.underlying128 Tryz.underlying5 Tryz.underlying9 wr.heap.size _ ⟨#[UInt8.ofNat (m % 256)]⟩ (Qgw wr m)]
   go_wp2_with fail
   go_roundw
   case rel=>exact ⟨j+1,m / 256,by omega,by go_num,by omega,HMx,by rw [Q6 HNx],by go_num,(Q6 hB).trans (((Below.refl _ _).alloc (Nat.le_refl _) _).mono (Q6 hB).size)⟩
   case measure=>simp [intOf]; omega
  ·have hjk:j=k:=by omega
   subst hjk
   clear hz
   go_wp2_with fail
   go_ret
   exact ⟨rfl,Q6 hB⟩
theorem Qc3 (v:Int) (k n:Nat) (s:ByteArray) (w:World) (hv:v=(n:Int)) (hn:n < 4294967296) (hk:k≤4) (hs:hiS n k=s) :
  Calls Tryz.prog 50 #[.int .i64 v,.int .i64 k] w fun e w'=>e=.returned (.string s)∧Below w.heap.size w w':=by
 subst hv
 subst hs
 exact Qio n k w hn hk
theorem Q4t (v:Int) (n:Nat) (w:World) (hv:v=(n:Int)) (hn:n < 65536) :
  Calls Tryz.prog 50 #[.int .i64 v,.int .i64 2] w fun e w'=>e=.returned (.string (wd n))∧Below w.heap.size w w' :=
 Qc3 v 2 n (wd n) w hv (by omega) (by omega) (Qkd n hn)
theorem Qin (v:Int) (n:Nat) (w:World) (hv:v=(n:Int)) (hn:n < 4294967296) :
  Calls Tryz.prog 50 #[.int .i64 v,.int .i64 4] w fun e w'=>e=.returned (.string (wd (n / 65536)++wd (n % 65536)))∧Below w.heap.size w w' :=
 Qc3 v 4 n _ w hv hn (by omega) (Qik n hn)
def Q0W (K:List (ByteArray × Nat)):List Value:=K.map fun p=>.int .i64 p.2
theorem Qex (K:List (ByteArray × Nat)):(Q0W K).length=K.length * 1:=by unfold Q0W; rw [List.length_map,Nat.mul_one]
theorem Q3V (K l:List (ByteArray × Nat)):Q0W (K++l)=Q0W K++Q0W l:=by simp [Q0W]
theorem QgH (l:List (ByteArray × Nat)) (i:Nat) (h:i < l.length):(Q0W l)[i]? = some (.int .i64 l[i].2):=by
 unfold Q0W
 rw [List.getElem?_map,List.getElem?_eq_getElem h]
 rfl
def Tx (w:World) (N T:Nat) (B:ByteArray) (K:List (ByteArray × Nat)):Prop :=
 ∃ ah ch,w.heap[T]? = some (.cells #[.string B,.slice ah K.length ch] 101 (0,0))∧N≤T∧w.ownsRow N 3 1 (.slice ah K.length ch) K.length (Q0W K)
structure TFrame (N:Nat) (w w':World):Prop where
 os:w'.os=w.os
 tape:w'.tape=w.tape
 output:w'.output=w.output
 size:w.heap.size≤w'.heap.size
 low:∀ k,k < N→k < w.heap.size→w'.heap[k]? = w.heap[k]?
 kind:∀ (k:Nat) (cs:Array Value) (t:TypeId) (fr:Nat × Nat),w.heap[k]? = some (Obj.cells cs t fr)→t≠3→t≠101→w'.heap[k]? = some (Obj.cells cs t fr)
theorem TFrame.refl (N:Nat) (w:World):TFrame N w w:=⟨rfl,rfl,rfl,Nat.le_refl _,fun _ _ _=>rfl,fun _ _ _ _ h _ _=>h⟩
theorem TFrame.trans {N:Nat} {a b c:World} (h:TFrame N a b) (k:TFrame N b c):TFrame N a c :=
 ⟨k.os.trans h.os,k.tape.trans h.tape,k.output.trans h.output,Nat.le_trans h.size k.size,fun i h1 h2=>(k.low i h1 (Nat.lt_of_lt_of_le h2 h.size)).trans (h.low i h1 h2),fun i cs t fr h1 h2 h3=>k.kind i cs t fr (h.kind i cs t fr h1 h2 h3) h2 h3⟩
theorem TFrame.below {N:Nat} {w w':World} (h:TFrame N w w') (hN:N≤w.heap.size):Below N w w':=⟨h.os,h.tape,h.output,h.size,fun k hk=>h.low k hk (Nat.lt_of_lt_of_le hk hN)⟩
theorem TFrame.of_below {N:Nat} {w w':World} (h:Below w.heap.size w w'):TFrame N w w' :=
 ⟨h.os,h.tape,h.output,h.size,fun k _ hk=>h.block k hk,fun k _ _ _ hk _ _=>(h.block k (Qb hk)).trans hk⟩
theorem TFrame.of_grown {N g:Nat} {w w':World} (h:w.grownBy w' (some g)) (hg:N≤g) {cs:Array Value} {t:TypeId} {fr:Nat × Nat} (hk:w.heap[g]? = some (.cells cs t fr)) (ht:t=3∨t=101):TFrame N w w' :=
 ⟨h.os,h.tape,h.output,h.size,fun k h1 h2=>h.block k h2 (fun e=>by cases e; omega),fun k cs' t' fr' h1 h2 h3=>(h.block k (Qb h1) (fun e=>by
  cases e
  rw [hk] at h1
  cases h1
  rcases ht with h | h
  ·exact h2 h
  ·exact h3 h)).trans h1⟩
theorem TFrame.of_none {N:Nat} {w w':World} (h:w.grownBy w' none):TFrame N w w' :=
 ⟨h.os,h.tape,h.output,h.size,fun k h1 h2=>h.block k h2 (by simp),fun k _ _ _ h1 _ _=>(h.block k (Qb h1) (by simp)).trans h1⟩
theorem TFrame.of_append {N:Nat} {w w':World} {e:TypeId} {size:Nat} {v:Value} {n:Nat} {xs:List Value} (hown:w.ownsRow N e size v n xs) (hg:w.grownBy w' v.ownBlock) (ht:e=3∨e=101):TFrame N w w':=by
 rcases hown.2 with ⟨rfl,_⟩ | ⟨g,cap,cur,rfl,hbg,hgg,_⟩
 ·exact TFrame.of_none hg
 ·exact TFrame.of_grown hg hbg hgg ht
theorem TFrame.box {N k:Nat} {w a:World} {cs:Array Value} {t:TypeId} {fr:Nat × Nat} (h:TFrame N w a) (hr:w.heap[k]? = some (.cells cs t fr)) (h1:t≠3) (h2:t≠101):a.heap[k]? = some (.cells cs t fr) :=
 h.kind k _ _ _ hr h1 h2
theorem Q0t {w:World} {T:Nat} {vb vk:Value} (h:w.heap[T]? = some (.cells #[vb,vk] 101 (0,0))) :
  w.cell? ⟨T,0,none⟩=some vb∧w.cell? ⟨T,1,none⟩=some vk∧w.frozen? ⟨T,0,none⟩=false∧w.frozen? ⟨T,1,none⟩=false:=by
 refine ⟨?_,?_,Qd h _,Qd h _⟩ <;> (rw [Qc h]; rfl)
theorem Tx.lt {w:World} {N T:Nat} {B:ByteArray} {K:List (ByteArray × Nat)} (h:Tx w N T B K):T < w.heap.size:=by
 obtain ⟨ah,ch,hR,_⟩:=h
 exact Qb hR
theorem Tx.below {w w':World} {N T:Nat} {B:ByteArray} {K:List (ByteArray × Nat)} (h:Tx w N T B K) (hb:Below w.heap.size w w'):Tx w' N T B K:=by
 obtain ⟨ah,ch,hR,hN,o1⟩:=h
 have hg:w.grownBy w' none:=Q1l hb
 exact ⟨ah,ch,(hb.block T (Qb hR)).trans hR,hN,Qk o1 hb⟩
set_option maxRecDepth 100000 in
set_option maxHeartbeats 1000000 in
theorem QcU (N T:Nat) (B:ByteArray) (K:List (ByteArray × Nat)) (Q:Nat→Prop) (s:ByteArray) (w:World) (h:Tx w N T B K) (hK:K.length≤400000) (hB:B.size≤400000) (hI:Inv Q B K) :
  Calls Tryz.prog 87 #[.pointer (some ⟨T,0,none⟩),.string s] w fun e w'=>e=.returned (.int .i64 (Q49 (Q2c K s)))∧Below w.heap.size w w':=by
 obtain ⟨ah,ch,hR,hN,o1⟩:=h
 obtain ⟨c0,c1,z0,z1⟩:=Q0t hR
 have O2:=Qa o1
 have HI:=Qa hI
 clear hR o1 hI
 obtain ⟨v,hv⟩:∃ v,Q49 (Q2c K s)=v:=⟨_,rfl⟩
 rw [hv]
 have HV:=Qa hv
 clear hv
 go_enter Tryz.func87,Tryz.ntmps87
 go_wp2_with fail
 go_loopw [5] (fun i w'=>∃ j m:Nat,j≤K.length∧i=.int .i64 j∧w'=w.drewN m∧Hid (∀ k (hk:k < K.length),k < j→K[k].1≠s)) (fun i _=>K.length - (intOf i).toNat)
 case atStart=>exact ⟨0,0,Nat.zero_le _,rfl,rfl,fun k _ hk=>by omega⟩
 case round =>
  obtain ⟨j,m,hj,rfl,rfl,hno⟩:=hrel
  by_cases cj:j < K.length
  ·obtain ⟨g,rfl,_,_,hcap⟩:=Q23 (Q6 O2) (by omega)
   have x0:=Q0v (Q6 O2) _ _ (QgH K j cj)
   obtain ⟨t,ht⟩:=(Q6 HI).read K[j].1 K[j].2 (List.getElem_mem cj)
   have hh:=(Q6 HI K[j].1 K[j].2 (List.getElem_mem cj)).1
   have HRd:=Qa ht
   have i1:(0:Int)≤(j:Int):=by omega
   have i2:(j:Int) < (K.length:Int):=by omega
   clear ht
   by_cases ce:K[j].1=s
   ·have hV:=Q6 HV
    rw [QcN K s j cj (fun k hk=>Q6 hno k (by omega) hk) ce] at hV
    have hV':(K[j].2:Int)=v:=hV
    have he:(K[j].1.toList == s.toList)=true:=by rw [Q1C]; simp [ce]
    have HV2:=Qa hV'
    clear hV hV' ce
    generalize K[j].1=kn at *
    generalize K[j].2=kh at *
    have Key:Hid (∀ w,Calls Tryz.prog 79 #[.string B,.int .i64 kh] w fun e w'=>e=.returned (.tuple #[.string kn,.int .i64 t,.int .i64 0])∧w'=w):=fun w=>Q1X B kh w kn t (by omega) (by omega) (by omega) (by rw [Int.toNat_natCast]; exact HRd)
    go_wp2_with fail
    go_quiet ((go_at_call 79; exact (Q6 Key _).mono (fun _ _ h=>⟨h.1,_,h.2⟩)))
    go_wp2_with fail
    go_ret
    exact ⟨by rw [Q6 HV2]; rfl,Q3q (Below.refl _ _) _⟩
   ·have he:(K[j].1.toList == s.toList)=false:=by rw [Q1C]; simp [ce]
    have hno2:Hid (∀ k (hk:k < K.length),k < j+1→K[k].1≠s):=fun k hk hkj=>by
     by_cases hkk:k=j
     ·subst hkk; exact ce
     ·exact Q6 hno k hk (by omega)
    clear ce
    generalize K[j].1=kn at *
    generalize K[j].2=kh at *
    have Key:Hid (∀ w,Calls Tryz.prog 79 #[.string B,.int .i64 kh] w fun e w'=>e=.returned (.tuple #[.string kn,.int .i64 t,.int .i64 0])∧w'=w):=fun w=>Q1X B kh w kn t (by omega) (by omega) (by omega) (by rw [Int.toNat_natCast]; exact HRd)
    go_wp2_with fail
    go_quiet ((go_at_call 79; exact (Q6 Key _).mono (fun _ _ h=>⟨h.1,_,h.2⟩)))
    go_wp2_with fail
    exact ⟨⟨j+1,m+nq,by omega,by go_num,rfl,hno2⟩,by simp [intOf]; omega⟩
  ·have hV:=Q6 HV
   rw [Q72 K s (fun k hk=>Q6 hno k hk (by omega))] at hV
   have HV2:Hid ((-1:Int)=v):=hV
   clear hV
   go_wp2_with fail
   go_ret
   exact ⟨by rw [←Q6 HV2]; rfl,Q3q (Below.refl _ _) _⟩
theorem Tryz.info3:(Tryz.prog.info? 3).map (fun i=>(i.zero,i.size,i.bytes))=some (some (.int .i64 0),1,8):=by kernel_rfl
theorem QaO (w:World) (x:Value) (t:TypeId) (B:Nat) (hB:B=w.heap.size):∀ j u,[x][j]? = some u→(w.alloc (.cells #[x] t)).cell? ((⟨B,0,none⟩:Addr).add j)=some u:=by
 subst hB
 exact World.news_of_block (cs:=#[x]) (heap_alloc_new w _)
theorem Q8z {w:World} {N:Nat} {a:Option Addr} {c:Nat} {K:List (ByteArray × Nat)} (h:w.ownsRow N 3 1 (.slice a K.length c) K.length (Q0W K)):Src Tryz.prog 1 43 (.slice a K.length c) K.length (Q0W K) w:=by
 rcases h.2 with ⟨h1,h2⟩ | ⟨g,cap,cur,h1,h2⟩
 ·have e:K=[]:=List.eq_nil_of_length_eq_zero h2
  subst e
  cases h1
  exact Src.ofNil w Tryz.underlying43 0
 ·cases h1
  exact Src.ofSlice w Tryz.underlying43 ⟨g,0,none⟩ K.length c _ (Qex K) (h.cells (g:=g) rfl) (fun u hu=>by
   unfold Q0W at hu
   obtain ⟨_,_,rfl⟩:=List.mem_map.1 hu
   rfl)
theorem QkL {s:ByteArray} {k:Nat} (ht:Tl s k):s.extract k s.size=⟨#[0]⟩↔s.size < k+2:=by
 have hlt:=ht.lt
 constructor
 ·intro e
  have:=congrArg ByteArray.size e
  rw [ByteArray.size_extract] at this
  have h1:(⟨#[0]⟩:ByteArray).size=1:=rfl
  omega
 ·intro c
  cases ht with
  | root _ h1 h2 =>
   have e2:=Q59 s k (by omega) h2
   rw [h1] at e2
   exact e2
  | lab _ h1 h2 h3=>have:=h3.lt; omega
theorem Q9b (s:ByteArray) (k c d:Nat) (hk:k≤s.size) (hc:c≤d) (hd:k+d≤s.size):(s.extract k s.size).extract c d=s.extract (k+c) (k+d):=by
 have h1:(s.extract k s.size).size=s.size - k:=by rw [ByteArray.size_extract]; omega
 have h2:((s.extract k s.size).extract c d).size=d - c:=by rw [ByteArray.size_extract,h1]; omega
 have h3:(s.extract (k+c) (k+d)).size=d - c:=by rw [ByteArray.size_extract]; omega
 apply Q3b
 ·rw [h2,h3]
 ·intro i hi
  rw [h2] at hi
  rw [Q2p (s.extract k s.size) c d i hi (by omega),Q2p s k s.size (c+i) (by omega) (Nat.le_refl _),Q2p s (k+c) (k+d) i (by omega) hd]
  congr 1; omega
theorem QaN {w0 w w':World} {size:Nat} {o:Obj} {v:Value} {n:Nat} {xs:List Value} (hB:Below w0.heap.size w0 w) (hown:w.ownsRow w0.heap.size 3 size v n xs) (hg:(w.alloc o).grownBy w' v.ownBlock):Below w0.heap.size w0 w':=by
 refine Below.grown (hB.trans (((Below.refl _ _).alloc (Nat.le_refl _) o).mono hB.size)) hg (by have:=hB.size; simp; omega) (fun k hk=>?_)
 exact (hown.lt k hk).1
set_option maxRecDepth 100000 in
set_option maxHeartbeats 4000000 in
theorem Qg0 (N T:Nat) (B:ByteArray) (K:List (ByteArray × Nat)) (Q:Nat→Prop) (s:ByteArray) (w:World) (h:Tx w N T B K) (hK:K.length≤300000) (hB:B.size≤300000) (hI:Inv Q B K) (hs:Q09 s=true) :
  Calls Tryz.prog 51 #[.pointer (some ⟨T,0,none⟩),.string s] w fun e w'=>e=.returned (.tuple #[])∧Tx w' N T (B++(Q1p K s B.size).1) (K++(Q1p K s B.size).2)∧TFrame N w w':=by
 obtain ⟨ht,h255⟩:=Qaw hs
 have hlt:=h.lt
 have H:=Qa h
 have HT:=Qa ht
 have hkt:Hid (∀ q,q∈K→q.2≤16383):=fun q hq=>(hI q.1 q.2 hq).1
 have hlen0:=(Q58 K s B.size)
 have key:Hid (∀ x W,Tx W N T B K→Calls Tryz.prog 87 #[.pointer (some ⟨T,0,none⟩),.string x] W fun e w'=>e=.returned (.int .i64 (Q49 (Q2c K x)))∧Below W.heap.size W w'):=fun x W hW=>QcU N T B K Q x W hW (by omega) (by omega) hI
 clear h ht hs hI
 obtain ⟨r,hr⟩:∃ r,Q1p K s B.size=r:=⟨_,rfl⟩
 rw [hr] at hlen0 ⊢
 have HR:Hid (shF K s B.size (s.size+1) 0=r):=hr
 clear hr
 obtain ⟨i0,hi,hz0,hz1,hz2⟩:=info_parts Tryz.info3
 have Hi:=Qa hi
 have Hz0:=Qa hz0
 have Hz1:=Qa hz1
 have Hz2:=Qa hz2
 clear hi hz0 hz1 hz2
 go_enter Tryz.func51,Tryz.ntmps51
 go_wp2_with fail
 go_loopg [1,4,5,6] (2 * s.size+4) (fun g nm sv tv hv w'=>∃ (k:Nat) (own:List (ByteArray × Nat)) (o:Option Nat) (a:Option Addr) (c:Nat),nm=.string (s.extract k s.size)∧sv=.string (s.extract 0 k)∧tv=.int .i64 (Q49 o)∧hv=.slice a own.length c ∧
   k≤s.size∧own.length≤k∧Hid (Tl s k)∧Hid (w'.ownsRow w.heap.size 3 1 (.slice a own.length c) own.length (Q0W own))∧Hid (Below w.heap.size w w') ∧
   ((o=none∧2 * s.size < 2 * k+g∧∃ f,s.size < k+f∧Hid (r=(s.extract 0 k++(shF K s B.size f k).1,own++(shF K s B.size f k).2)))∨(∃ t,o=some t∧t≤16383∧Hid (r=(s.extract 0 k++wd (49152+t),own)))))
 case atStart=>exact ⟨0,[],none,none,0,by rw [Q13],by rw [Q2z],rfl,rfl,by omega,Nat.le_refl _,HT,World.ownsRow_nil _ _ _ _,Below.refl _ _,.inl ⟨rfl,by omega,s.size+1,by omega,by rw [Q2z,empty_append,List.nil_append]; exact (Q6 HR).symm⟩⟩
 case round =>
  obtain ⟨k,own,o,a,c,rfl,rfl,rfl,rfl,hks,hol,htk,hO,hBw,hcase⟩:=hrel
  have hX:=Qa ((Q6 H).below (Q6 hBw))
  have hek:(s.extract 0 k).size=k:=by rw [ByteArray.size_extract]; omega
  rcases hcase with ⟨rfl,hg,f,hf,hres⟩ | ⟨t,rfl,ht,hres⟩
  ·simp only [Q49]
   have hrn:=QkL (Q6 htk)
   by_cases cr:s.size < k+2
   ·-- the end: the root
    have hre:=hrn.2 cr
    have he:((s.extract k s.size).toList == [0])=true:=by rw [Q6e]; simp [hre]
    have he2:((s.extract k s.size).toList != [0])=false:=by rw [bne,he]; rfl
    have hr2:=Q6 hres
    rw [QfZ K s B.size f k hf hks cr,hre,List.append_nil] at hr2
    have HR2:=Qa hr2
    clear hr2 hres hre hrn HR
    generalize s.extract k s.size=rest at *
    have hone:(⟨#[0]⟩:ByteArray).size=1:=rfl
    have hsS:(s.extract 0 k++(⟨#[0]⟩:ByteArray)).size≤300:=by rw [ByteArray.size_append]; omega
    generalize s.extract 0 k=pre at *
    have hneg:((-1:Int) < 0)=True:=by simp
    obtain ⟨ah,ch,hR,hNT,o1⟩:=Q6 hX
    obtain ⟨c0,c1,z0,z1⟩:=Q0t hR
    have hsR:=Qo hR 0 (.string (B++(pre++(⟨#[0]⟩:ByteArray))))
    have OWN:=Qa (Qi o1 hR (by decide) 0 (.string (B++(pre++(⟨#[0]⟩:ByteArray)))))
    have SRC:=Qa (Q8z (Qi (Q6 hO) hR (by decide) 0 (.string (B++(pre++(⟨#[0]⟩:ByteArray))))))
    have HSR:=Qa hsR
    have HRR:=Qa hR
    have hNw:=(Q6 hBw).size
    have hsz:(B++(pre++(⟨#[0]⟩:ByteArray))).size≤400000:=by rw [ByteArray.size_append]; omega
    clear hR hsR o1
    go_wp2_with (at_builtin; refine Qe _ rfl _ _ 43 43 rfl N 3 i0 (.int .i64 0) 1 8 Tryz.underlying43 (Q6 Hi) (Q6 Hz0) (Q6 Hz1) (Q6 Hz2) rfl (.slice ah K.length ch) K.length (Q0W K) (by rfl) (Q6 OWN) (.slice a own.length c) own.length (Q0W own) (by rfl) (Q6 SRC) (by unfold maxLen; omega) (by omega) (by rw [Q0l]; omega) ?_; intro a1 e1 w1 hown1 hgrow1 hat1; have hR1:=Q02 (Q6 OWN) hgrow1 (Q6 HSR) (by decide); have hfr:=TFrame.of_append (Q6 OWN) hgrow1 (.inl rfl); obtain ⟨d0,d1,y0,y1⟩:=Q0t hR1; have HR1:=Qa hR1; have HF:=Qa hfr; have HO1:=Qa hown1; clear c0 c1 z0 z1 hR1 hfr hown1 hgrow1 hat1)
    go_end0
    rw [Q6 HR2]
    refine ⟨rfl,⟨a1,e1,?_,hNT,?_⟩,(((TFrame.of_below (Q6 hBw)).trans (TFrame.of_grown (Ql _ T 0 _) hNT (Q6 HRR) (.inr rfl))).trans (Q6 HF)).trans (TFrame.of_grown (Ql _ T 1 _) hNT (Q6 HR1) (.inr rfl))⟩
    ·rw [List.length_append]
     exact (Qo (Q6 HR1) 1 _).trans rfl
    ·rw [List.length_append,Q3V]
     exact Qi (Q6 HO1) (Q6 HR1) (by decide) 1 _
   ·-- a label: is the tail known?
    have hre:¬ (s.extract k s.size=⟨#[0]⟩):=fun e=>cr (hrn.1 e)
    have he:((s.extract k s.size).toList == [0])=false:=by rw [Q6e]; simp [hre]
    have he2:((s.extract k s.size).toList != [0])=true:=by rw [bne,he]; rfl
    obtain ⟨t1,t2,t3,t4⟩:=Qcp (Q6 htk) cr
    obtain ⟨f,rfl⟩:∃ g,f=g+1:=⟨f - 1,by omega⟩
    have hse:(s.extract k s.size).size=s.size - k:=by rw [ByteArray.size_extract]; omega
    clear hre hrn
    cases hfd:Q2c K (s.extract k s.size) with
    | some t =>
     have hr2:=Q6 hres
     rw [Qam K s B.size f k t cr hfd] at hr2
     have hto:=Q6 hkt _ (Q8f K _ t hfd)
     simp only [List.append_nil] at hto hr2
     have HFD:=Qa hfd
     have HR2:=Qa hr2
     clear hr2 hres HR hfd
     go_wp2_with fail
     refine (Q6 key _ _ (Q6 hX)).mono ?_
     rw [Q6 HFD]
     rintro e w1 ⟨rfl,hb1⟩
     have hX1:=Qa ((Q6 hX).below hb1)
     have hO1:=Qa (Qk (Q6 hO) hb1)
     have hB1:=Qa ((Q6 hBw).trans (hb1.mono (Q6 hBw).size))
     simp only [Q49]
     clear hX hO hBw hb1
     go_wp2_with fail
     go_roundg (gk - 1)
     case measure=>omega
     case rel=>exact ⟨k,own,some t,a,c,rfl,rfl,rfl,rfl,hks,hol,htk,hO1,hB1,.inr ⟨t,rfl,hto,HR2⟩⟩
    | none =>
     have hr2:=Q6 hres
     rw [Qal K s B.size f k cr hfd] at hr2
     have HFD:=Qa hfd
     have HR2:=Qa hr2
     clear hr2 hres HR hfd
     have hg0:(s.extract k s.size)[0]'(by omega)=s[k]'(by omega):=by simp [ByteArray.getElem_extract]
     have hg1:((s.extract k s.size)[0]'(by omega)).toNat=bt s k:=by rw [hg0]; exact Q10 s k (by omega)
     have hx1:(s.extract k s.size).extract 0 (1+bt s k)=s.extract k (k+1+bt s k):=by
      rw [Q9b s k 0 (1+bt s k) (by omega) (by omega) (by omega),Nat.add_zero,Nat.add_assoc]
     have hx2:(s.extract k s.size).extract (1+bt s k) (s.size - k)=s.extract (k+1+bt s k) s.size:=by
      rw [Q9b s k (1+bt s k) (s.size - k) (by omega) (by omega) (by omega),Nat.add_assoc,show k+(s.size - k)=s.size by omega]
     have hx3:s.extract 0 k++s.extract k (k+1+bt s k)=s.extract 0 (k+1+bt s k):=Q1t s 0 k _ (by omega) (by omega) (by omega)
     have hz4:((s.extract k s.size).extract 0 (1+bt s k)).size≤255:=by rw [ByteArray.size_extract]; omega
     have HX1:=Qa hx1
     have HX2:=Qa hx2
     have HX3:=Qa hx3
     clear hx1 hx2 hx3 hg0
     have hl1:(Q2b (s.extract k s.size) (B.size+k)).length≤1:=by unfold Q2b; split <;> simp
     have HL1:=Qa hl1
     have HLr:Hid (Q2b (s.extract k s.size) (B.size+k)=if B.size+k≤16383 then [(s.extract k s.size,B.size+k)] else []):=rfl
     clear hl1
     generalize hL:Q2b (s.extract k s.size) (B.size+k)=L1 at HL1 HLr HR2
     clear hL
     go_wp2_with fail
     refine (Q6 key _ _ (Q6 hX)).mono ?_
     rw [Q6 HFD]
     rintro e w1 ⟨rfl,hb1⟩
     have hX1:=Qa ((Q6 hX).below hb1)
     have hO1:=Qa (Qk (Q6 hO) hb1)
     have hB1:=Qa ((Q6 hBw).trans (hb1.mono (Q6 hBw).size))
     simp only [Q49]
     clear hX hO hBw hb1
     obtain ⟨ah,ch,hR,hNT,o1⟩:=Q6 hX1
     obtain ⟨c0,c1,z0,z1⟩:=Q0t hR
     clear hR o1
     have hsB:=(Q6 hB1).size
     by_cases cp:B.size+k≤16383
     ·have hLv:=Q6 HLr
      rw [if_pos cp] at hLv
      subst hLv
      go_wp2_with (at_builtin; refine Qe _ rfl _ _ 43 43 rfl w.heap.size 3 i0 (.int .i64 0) 1 8 Tryz.underlying43 (Q6 Hi) (Q6 Hz0) (Q6 Hz1) (Q6 Hz2) rfl (.slice a own.length c) own.length (Q0W own) (by rfl) ((Q6 hO1).alloc _) (.slice (some ⟨w1.heap.size,0,none⟩) 1 1) 1 [.int .i64 ((B.size:Int)+k)] (by rfl) (Src.ofSlice _ Tryz.underlying43 ⟨w1.heap.size,0,none⟩ 1 1 _ rfl (QaO _ _ _ _ rfl) (fun x hx=>by simp at hx; rcases hx with rfl; rfl)) (by unfold maxLen; omega) (by omega) (by simp; omega) ?_; intro a2 e2 w2 hown2 hgrow2 hat2; have hB2:=Qa (QaN (Q6 hB1) (Q6 hO1) hgrow2); have hO2:=Qa hown2; clear hown2 hgrow2 hat2 c0 c1 z0 z1)
      rw [Q6 HX1,Q6 HX3,Q6 HX2]
      go_roundg (gk - 2)
      case measure=>omega
      case rel =>
       refine ⟨k+1+bt s k,own++[(s.extract k s.size,B.size+k)],none,a2,e2,rfl,rfl,rfl,by rw [List.length_append]; rfl,by omega,by rw [List.length_append]; show own.length+1≤_; omega,t4,?_,hB2,.inl ⟨rfl,by omega,f,by omega,?_⟩⟩
       ·show World.ownsRow _ _ _ _ _ _ _
        rw [List.length_append,Q3V]
        exact Q6 hO2
       ·show _=_
        rw [Q6 HR2,←Q07,Q6 HX3,List.append_assoc]
     ·have hLv:=Q6 HLr
      rw [if_neg cp] at hLv
      subst hLv
      go_wp2_with fail
      rw [Q6 HX1,Q6 HX3,Q6 HX2]
      go_roundg (gk - 2)
      case measure=>omega
      case rel =>
       refine ⟨k+1+bt s k,own,none,a,c,rfl,rfl,rfl,rfl,by omega,by omega,t4,hO1,hB1,.inl ⟨rfl,by omega,f,by omega,?_⟩⟩
       show _=_
       rw [Q6 HR2,←Q07,Q6 HX3,List.nil_append]
  ·have hpos:¬ ((t:Int) < 0):=by omega
   have hr2:=Q6 hres
   have HR2:=Qa hr2
   clear hr2 hres HR
   simp only [Q49]
   generalize s.extract k s.size=rest at *
   generalize s.extract 0 k=pre at *
   obtain ⟨z,hz⟩:∃ z,wd (49152+t)=z:=⟨_,rfl⟩
   have hwz:=Q00 (49152+t)
   have Key2:Hid (∀ w,Calls Tryz.prog 50 #[.int .i64 (49152+(t:Int)),.int .i64 2] w fun e w'=>e=.returned (.string z)∧Below w.heap.size w w'):=fun w=>by rw [←hz]; exact Q4t _ _ w (by omega) (by omega)
   rw [hz] at hwz HR2
   clear hz
   have hsS:(pre++z).size≤300:=by rw [ByteArray.size_append]; omega
   by_cases cr:(rest.toList == [0])=true
   ·have he2:(rest.toList != [0])=false:=by rw [bne,cr]; rfl
    go_wp2_with fail
    refine (Q6 Key2 _).mono ?_
    rintro e w1 ⟨rfl,hb1⟩
    have hX1:=Qa ((Q6 hX).below hb1)
    have hO1:=Qa (Qk (Q6 hO) hb1)
    have hB1:=Qa ((Q6 hBw).trans (hb1.mono (Q6 hBw).size))
    clear hX hO hBw hb1 Key2
    obtain ⟨ah,ch,hR,hNT,o1⟩:=Q6 hX1
    obtain ⟨c0,c1,z0,z1⟩:=Q0t hR
    have hsR:=Qo hR 0 (.string (B++(pre++z)))
    have OWN:=Qa (Qi o1 hR (by decide) 0 (.string (B++(pre++z))))
    have SRC:=Qa (Q8z (Qi (Q6 hO1) hR (by decide) 0 (.string (B++(pre++z)))))
    have HSR:=Qa hsR
    have HRR:=Qa hR
    have hNw:=(Q6 hB1).size
    have hsz:(B++(pre++z)).size≤400000:=by rw [ByteArray.size_append]; omega
    clear hR hsR o1
    go_wp2_with (at_builtin; refine Qe _ rfl _ _ 43 43 rfl N 3 i0 (.int .i64 0) 1 8 Tryz.underlying43 (Q6 Hi) (Q6 Hz0) (Q6 Hz1) (Q6 Hz2) rfl (.slice ah K.length ch) K.length (Q0W K) (by rfl) (Q6 OWN) (.slice a own.length c) own.length (Q0W own) (by rfl) (Q6 SRC) (by unfold maxLen; omega) (by omega) (by rw [Q0l]; omega) ?_; intro a1 e1 w1 hown1 hgrow1 hat1; have hR1:=Q02 (Q6 OWN) hgrow1 (Q6 HSR) (by decide); have hfr:=TFrame.of_append (Q6 OWN) hgrow1 (.inl rfl); obtain ⟨d0,d1,y0,y1⟩:=Q0t hR1; have HR1:=Qa hR1; have HF:=Qa hfr; have HO1:=Qa hown1; clear c0 c1 z0 z1 hR1 hfr hown1 hgrow1 hat1)
    go_end0
    rw [Q6 HR2]
    refine ⟨rfl,⟨a1,e1,?_,hNT,?_⟩,(((TFrame.of_below (Q6 hB1)).trans (TFrame.of_grown (Ql _ T 0 _) hNT (Q6 HRR) (.inr rfl))).trans (Q6 HF)).trans (TFrame.of_grown (Ql _ T 1 _) hNT (Q6 HR1) (.inr rfl))⟩
    ·rw [List.length_append]
     exact (Qo (Q6 HR1) 1 _).trans rfl
    ·rw [List.length_append,Q3V]
     exact Qi (Q6 HO1) (Q6 HR1) (by decide) 1 _
   ·have he:(rest.toList == [0])=false:=by simpa using cr
    have he2:(rest.toList != [0])=true:=by rw [bne,he]; rfl
    clear cr
    go_wp2_with fail
    refine (Q6 Key2 _).mono ?_
    rintro e w1 ⟨rfl,hb1⟩
    have hX1:=Qa ((Q6 hX).below hb1)
    have hO1:=Qa (Qk (Q6 hO) hb1)
    have hB1:=Qa ((Q6 hBw).trans (hb1.mono (Q6 hBw).size))
    clear hX hO hBw hb1 Key2
    obtain ⟨ah,ch,hR,hNT,o1⟩:=Q6 hX1
    obtain ⟨c0,c1,z0,z1⟩:=Q0t hR
    have hsR:=Qo hR 0 (.string (B++(pre++z)))
    have OWN:=Qa (Qi o1 hR (by decide) 0 (.string (B++(pre++z))))
    have SRC:=Qa (Q8z (Qi (Q6 hO1) hR (by decide) 0 (.string (B++(pre++z)))))
    have HSR:=Qa hsR
    have HRR:=Qa hR
    have hNw:=(Q6 hB1).size
    have hsz:(B++(pre++z)).size≤400000:=by rw [ByteArray.size_append]; omega
    clear hR hsR o1
    go_wp2_with (at_builtin; refine Qe _ rfl _ _ 43 43 rfl N 3 i0 (.int .i64 0) 1 8 Tryz.underlying43 (Q6 Hi) (Q6 Hz0) (Q6 Hz1) (Q6 Hz2) rfl (.slice ah K.length ch) K.length (Q0W K) (by rfl) (Q6 OWN) (.slice a own.length c) own.length (Q0W own) (by rfl) (Q6 SRC) (by unfold maxLen; omega) (by omega) (by rw [Q0l]; omega) ?_; intro a1 e1 w1 hown1 hgrow1 hat1; have hR1:=Q02 (Q6 OWN) hgrow1 (Q6 HSR) (by decide); have hfr:=TFrame.of_append (Q6 OWN) hgrow1 (.inl rfl); obtain ⟨d0,d1,y0,y1⟩:=Q0t hR1; have HR1:=Qa hR1; have HF:=Qa hfr; have HO1:=Qa hown1; clear c0 c1 z0 z1 hR1 hfr hown1 hgrow1 hat1)
    go_end0
    rw [Q6 HR2]
    refine ⟨rfl,⟨a1,e1,?_,hNT,?_⟩,(((TFrame.of_below (Q6 hB1)).trans (TFrame.of_grown (Ql _ T 0 _) hNT (Q6 HRR) (.inr rfl))).trans (Q6 HF)).trans (TFrame.of_grown (Ql _ T 1 _) hNT (Q6 HR1) (.inr rfl))⟩
    ·rw [List.length_append]
     exact (Qo (Q6 HR1) 1 _).trans rfl
    ·rw [List.length_append,Q3V]
     exact Qi (Q6 HO1) (Q6 HR1) (by decide) 1 _
theorem Q9B (d x:ByteArray) (q:Nat) (h:Q05 d q=.ok (x,x.size)):q+x.size≤d.size∧Q1u (d.extract q d.size)=x.size∧(d.extract q d.size).extract 0 x.size=x∧(d.extract q d.size).extract x.size (d.extract q d.size).size=d.extract (q+x.size) d.size:=by
 have h1:=QiL d _ q q 0 x x.size h rfl
 obtain ⟨h2,h3⟩:=Qd5 d _ q 0 x x.size h1
 have hw:=Q1G d q x x.size h
 have hp:=Q1j hw
 have hs:(d.extract q d.size).size=d.size - q:=by rw [ByteArray.size_extract]; omega
 have e1:d.extract q d.size=x++d.extract (q+x.size) d.size:=by
  conv=>rhs; lhs; rw [h2]
  rw [Q1t d q _ _ (by omega) h3 (Nat.le_refl _)]
 refine ⟨h3,?_,?_,?_⟩
 ·rw [e1,Q6w x _ hw]
 ·rw [Q9b d q 0 x.size (by omega) (by omega) h3,Nat.add_zero,←h2]
 ·rw [hs,Q9b d q x.size (d.size - q) (by omega) (by omega) (by omega),show q+(d.size - q)=d.size by omega]
theorem Qbi (K:List (ByteArray × Nat)) (d:ByteArray) (p:Nat):∀ j,(∀ i,i < j→∃ x,Q05 d (Q0m K d p i).2.2=.ok (x,x.size))→Q14 d j=d.extract (Q0m K d p j).2.2 d.size:=by
 intro j
 induction j with
 | zero=>intro _; show d=d.extract 0 d.size; rw [Q13]
 | succ j ih =>
  intro h
  obtain ⟨x,hx⟩:=h j (by omega)
  have h1:=ih (fun i hi=>h i (by omega))
  obtain ⟨f1,f2,f3,f4⟩:=Q9B d x _ hx
  rw [Q14,h1,f2,f4,Q5D K d p j x x.size hx]
theorem QaQ (x c:ByteArray):(x++c).extract 0 x.size=x:=by
 apply Q3b
 ·rw [ByteArray.size_extract,ByteArray.size_append]; omega
 ·intro i hi
  have hi':i < x.size:=by rw [ByteArray.size_extract] at hi; omega
  rw [Q2p _ _ _ i (by omega) (by rw [ByteArray.size_append]; omega),Q03,if_pos (by omega),Nat.zero_add]
theorem Q8A {w:World} {N T:Nat} {B:ByteArray} {K:List (ByteArray × Nat)} (h:Tx w N T B K) (B':ByteArray):Tx (w.setCell ⟨T,0,none⟩ (.string B')) N T B' K∧TFrame N w (w.setCell ⟨T,0,none⟩ (.string B')):=by
 obtain ⟨ah,ch,hR,hN,o1⟩:=h
 exact ⟨⟨ah,ch,(Qo hR 0 _).trans rfl,hN,Qi o1 hR (by decide) 0 _⟩,TFrame.of_grown (Ql _ T 0 _) hN hR (.inr rfl)⟩
set_option maxRecDepth 100000 in
set_option maxHeartbeats 4000000 in
theorem Qlj (N T:Nat) (B:ByteArray) (K:List (ByteArray × Nat)) (t:Nat) (d:ByteArray) (w:World) (h:Tx w N T B K) (hK:K.length≤200000) (hO:KOk K) (hB:B.size≤200000) (hI:Inv (fun _=>False) B K) (hd:Q1Y t d) :
  Calls Tryz.prog 88 #[.pointer (some ⟨T,0,none⟩),.int .i64 t,.string d] w fun e w'=>e=.returned (.tuple #[])∧Tx w' N T (B++wd (Q1B K d t (B.size+2)).1.size++(Q1B K d t (B.size+2)).1) (Q1B K d t (B.size+2)).2∧TFrame N w w':=by
 have hlt:=h.lt
 have hds:=hd.1
 have hfn:=Q4b K d t (B.size+2) hd
 have hle:=Qai K d t (B.size+2) hd
 have hinv:∀ j,j≤Q01 t→Inv (fun i=>B.size≤i∧i < B.size+2) (B++wd 0++(Q0m K d (B.size+2) j).1) (Q0m K d (B.size+2) j).2.1:=by
  intro j hj
  have e:(B++wd 0).size=B.size+2:=by rw [ByteArray.size_append,Q00]
  have h1:=Qj6 B K d hI (wd 0) j (fun i hi=>by rw [e]; exact hfn i (by omega))
  rw [e] at h1
  exact h1
 have hbd:=Q8y K d (B.size+2) hO
 have hm2:=Q5x t
 have hS:Q1B K d t (B.size+2)=((Q0m K d (B.size+2) (Q01 t)).1++Q14 d (Q01 t),(Q0m K d (B.size+2) (Q01 t)).2.1):=by
  rw [Qbi K d (B.size+2) (Q01 t) hfn]; rfl
 have hcut:∀ j,j < Q01 t→∃ x,Q09 x=true∧Q1u (Q14 d j)=x.size∧(Q14 d j).extract 0 x.size=x∧(Q14 d j).extract x.size (Q14 d j).size=Q14 d (j+1) ∧
   Q0m K d (B.size+2) (j+1)=((Q0m K d (B.size+2) j).1++(Q1p (Q0m K d (B.size+2) j).2.1 x (B.size+2+(Q0m K d (B.size+2) j).1.size)).1,(Q0m K d (B.size+2) j).2.1++(Q1p (Q0m K d (B.size+2) j).2.1 x (B.size+2+(Q0m K d (B.size+2) j).1.size)).2,(Q0m K d (B.size+2) j).2.2+x.size):=by
  intro j hj
  obtain ⟨x,hx⟩:=hfn j hj
  obtain ⟨f1,f2,f3,f4⟩:=Q9B d x _ hx
  have h1:=Qbi K d (B.size+2) j (fun i hi=>hfn i (by omega))
  refine ⟨x,Q1G d _ x _ hx,by rw [h1,f2],by rw [h1,f3],?_,Q5D K d _ j x x.size hx⟩
  rw [Q14,h1,f2]
 have keyN:∀ w,Calls Tryz.prog 116 #[.int .i64 t] w fun e w'=>e=.returned (.tuple #[.int .i64 (Q01 t),.int .i64 (Q1I t)])∧w'=w:=Q7U t
 have Key0:Hid (∀ w,Calls Tryz.prog 50 #[.int .i64 0,.int .i64 2] w fun e w'=>e=.returned (.string (wd 0))∧Below w.heap.size w w'):=fun w=>Q4t 0 0 w rfl (by omega)
 obtain ⟨S,hSd⟩:∃ S,Q1B K d t (B.size+2)=S:=⟨_,rfl⟩
 have KeyE:Hid (∀ w (v:Int),v=(S.1.size:Int)→Calls Tryz.prog 50 #[.int .i64 v,.int .i64 2] w fun e w'=>e=.returned (.string (wd S.1.size))∧Below w.heap.size w w'):=fun w v hv=>Q4t _ _ w hv (by rw [←hSd]; omega)
 rw [hSd] at hle hS ⊢
 have H:=Qa h
 have HInv:=Qa hinv
 have HBd:=Qa hbd
 have HCut:=Qa hcut
 have KeyN:=Qa keyN
 have HS:=Qa hS
 have hz0:=Q00 0
 have hzE:=Q00 S.1.size
 clear h hfn hinv hbd hcut keyN hS hSd hd hI hO
 generalize Q01 t=m at *
 generalize Q1I t=more at *
 generalize wd S.1.size=zE at *
 generalize wd 0=z0 at *
 obtain ⟨ah,ch,hR,hNT,o1⟩:=Q6 H
 obtain ⟨c0,c1,y0,y1⟩:=Q0t hR
 have HR:=Qa hR
 clear hR o1
 go_enter Tryz.func88,Tryz.ntmps88
 go_wp2_with fail
 go_cut [6] (fun a w'=>a=.int .i64 B.size∧Hid (Tx w' N T (B++z0) K)∧Hid (TFrame N w w'))
 case first =>
  go_region_with (first | (go_at_call 50; refine (Q6 Key0 _).mono ?_; rintro e w1 ⟨rfl,hb1⟩; obtain ⟨d0,d1,x0,x1⟩:=Q0t ((hb1.block T hlt).trans (Q6 HR))))
  all_goals go_wp2_with fail
  all_goals go_meet
  all_goals
   have hb2:=Q0x hb1
   obtain ⟨q1,q2⟩:=Q8A ((Q6 H).below hb2) (B++z0)
   exact ⟨rfl,q1,(TFrame.of_below hb2).trans q2⟩
 case rest =>
  obtain ⟨rfl,hX0,hF0⟩:=hcut
  clear c0 c1 y0 y1
  go_wp2_with fail
  refine (Q6 KeyN _).mono ?_
  rintro e w1 ⟨rfl,hw1⟩
  rw [hw1]
  clear hw1 w1
  go_wp2_with fail
  go_loopw [2,7] (fun s k w'=>∃ j:Nat,j≤m∧s=.string (Q14 d j)∧k=.int .i64 ((m - j:Nat):Int)∧Hid (Tx w' N T (B++z0++(Q0m K d (B.size+2) j).1) (Q0m K d (B.size+2) j).2.1)∧Hid (TFrame N w w')) (fun _ k _=>(intOf k).toNat)
  case atStart =>
   refine ⟨0,Nat.zero_le _,rfl,rfl,?_,hF0⟩
   have e:B++z0++(⟨#[]⟩:ByteArray)=B++z0:=by apply ByteArray.ext; simp [ByteArray.data_append]
   show Tx _ N T (B++z0++(⟨#[]⟩:ByteArray)) K
   rw [e]
   exact Q6 hX0
  case round =>
   obtain ⟨j,hj,rfl,rfl,hX,hF⟩:=hrel
   have hsz:=Q9x d j
   obtain ⟨b1,b2,b3,b4⟩:=Q6 HBd j
   by_cases cj:j < m
   ·obtain ⟨x,hw,hl,hx1,hx2,hnx⟩:=Q6 HCut j cj
    have hinv:=Q6 HInv j (by omega)
    have hwp:=Q1j hw
    have hxs:x.size≤(Q14 d j).size:=by have:=(Q4f (Q14 d j)).1; omega
    have key1:=fun w=>Q9Q (Q14 d j) w (by omega)
    rw [hl] at key1
    have key2:=fun W (h:Tx W N T (B++z0++(Q0m K d (B.size+2) j).1) (Q0m K d (B.size+2) j).2.1)=>Qg0 N T _ _ _ x W h (by omega) (by rw [ByteArray.size_append,ByteArray.size_append]; omega) hinv hw
    have e3:(B++z0++(Q0m K d (B.size+2) j).1).size=B.size+2+(Q0m K d (B.size+2) j).1.size:=by rw [ByteArray.size_append,ByteArray.size_append,hz0]
    rw [e3,Q07 (B++z0)] at key2
    have hnx2:∀ W,Tx W N T (B++z0++((Q0m K d (B.size+2) j).1++(Q1p (Q0m K d (B.size+2) j).2.1 x (B.size+2+(Q0m K d (B.size+2) j).1.size)).1)) ((Q0m K d (B.size+2) j).2.1++(Q1p (Q0m K d (B.size+2) j).2.1 x (B.size+2+(Q0m K d (B.size+2) j).1.size)).2)→Tx W N T (B++z0++(Q0m K d (B.size+2) (j+1)).1) (Q0m K d (B.size+2) (j+1)).2.1:=by
     intro W h
     rw [hnx]
     exact h
    have K1:=Qa key1
    have K2:=Qa key2
    have HNx:=Qa hnx2
    have HX1:=Qa hx1
    have HX2:=Qa hx2
    have hkj:((m - j:Nat):Int)=(m:Int) - j:=by omega
    clear key1 key2 hnx2 hnx hx1 hx2 hl hw e3 hinv b1 b2 b3 b4
    generalize Q14 d j=s at *
    go_wp2_with fail
    refine (Q6 K1 _).mono ?_
    rintro e w2 ⟨rfl,hw2⟩
    rw [hw2]
    clear hw2 w2
    go_wp2_with fail
    rw [Q6 HX1]
    refine (Q6 K2 _ (Q6 hX)).mono ?_
    rintro e w2 ⟨rfl,h2,f2⟩
    have H2:=Qa (Q6 HNx _ h2)
    have F2:=Qa ((Q6 hF).trans f2)
    clear h2 f2 hX hF
    go_wp2_with fail
    go_roundw
    case rel=>exact ⟨j+1,by omega,by rw [Q6 HX2],by go_num,H2,F2⟩
    case measure=>simp [intOf]; omega
   ·have hjm:j=m:=by omega
    subst hjm
    have hs1:=Q6 HS
    have hB2:B++z0++S.1=B++z0++(Q0m K d (B.size+2) j).1++Q14 d j:=by rw [hs1,←Q07]
    have hK2:S.2=(Q0m K d (B.size+2) j).2.1:=by rw [hs1]
    rw [←hK2] at hX
    have HB2:=Qa hB2
    have hsz1:(B++z0++(Q0m K d (B.size+2) j).1).size≤300000:=by rw [ByteArray.size_append,ByteArray.size_append]; omega
    clear hs1 hB2 hK2 b1 b2 b3 b4 HBd HCut HInv
    generalize B++z0++(Q0m K d (B.size+2) j).1=X1 at *
    generalize Q14 d j=s at *
    rw [Nat.sub_self]
    obtain ⟨ah,ch,hR,hNT,o1⟩:=Q6 hX
    obtain ⟨c0,c1,y0,y1⟩:=Q0t hR
    clear hR o1
    obtain ⟨q1,q2⟩:=Q8A (Q6 hX) (X1++s)
    have hq2:(X1++s)=B++z0++S.1:=(Q6 HB2).symm
    have hz3:(X1++s).size=B.size+2+S.1.size:=by rw [hq2,ByteArray.size_append,ByteArray.size_append,hz0]
    have hf1:(X1++s).extract 0 B.size=B:=by rw [hq2,Q07]; exact QaQ _ _
    have hf2:(X1++s).extract (B.size+2) (X1++s).size=S.1:=by
     have e:B.size+2=(B++z0).size:=by rw [ByteArray.size_append,hz0]
     rw [hq2,e]
     exact Q5m _ _
    have Q1:=Qa q1
    have Q2:=Qa ((Q6 hF).trans q2)
    have HF1:=Qa hf1
    have HF2:=Qa hf2
    have HQ2:=Qa hq2
    clear q1 q2 hq2 hf1 hf2
    have hres:(X1++s).extract 0 B.size++zE++(X1++s).extract (B.size+2) (X1++s).size=B++zE++S.1:=by rw [Q6 HF1,Q6 HF2]
    have HRes:=Qa hres
    clear hres
    go_wp2_with fail
    generalize wr.setCell ⟨T,0,none⟩ (.string (X1++s))=W2 at *
    generalize X1++s=Y at *
    clear c0 c1 y0 y1 hX hF hX0 hF0
    obtain ⟨ah2,ch2,hR2,_,_⟩:=Q6 Q1
    obtain ⟨c0,c1,y0,y1⟩:=Q0t hR2
    have hlt2:=Qb hR2
    have HR2:=Qa hR2
    have i1:(0:Int)≤(B.size:Int):=by omega
    have i2:(B.size:Int)≤(Y.size:Int):=by omega
    have i3:(B.size:Int)+2≤(Y.size:Int):=by omega
    have i4:IntKind.i64.wrap ((B.size:Int)+2)=(B.size:Int)+2:=IntWalk.i64_in _ (by omega)
    have i5:(0:Int)≤(B.size:Int)+2:=by omega
    have e1:(Y.extract 0 B.size).size=B.size:=by rw [ByteArray.size_extract]; omega
    have e2:(Y.extract (B.size+2) Y.size).size=S.1.size:=by rw [ByteArray.size_extract]; omega
    have e3:(Y.extract 0 B.size++zE).size=B.size+2:=by rw [ByteArray.size_append]; omega
    have g1:B.size≤9223372036854775805:=by omega
    have g2:B.size+2+S.1.size≤9223372036854775807:=by omega
    have g3:((B.size:Int)+2).toNat=B.size+2:=by omega
    have HZ3:=Qa hz3
    clear hz3
    clear hR2
    go_region_with (first | (go_at_call 50; refine (Q6 KeyE _ _ ?_).mono ?_; (have hz3:=Q6 HZ3; omega); rintro e w1 ⟨rfl,hb1⟩; obtain ⟨d0,d1,x0,x1⟩:=Q0t ((hb1.block T hlt2).trans (Q6 HR2))))
    all_goals go_wp2_with fail
    all_goals go_end0
    all_goals
     have hb2:=Q0x hb1
     obtain ⟨q1,q2⟩:=Q8A ((Q6 Q1).below hb2) (B++zE++S.1)
     rw [←Q6 HRes] at q1 q2 ⊢
     exact ⟨rfl,q1,((Q6 Q2).trans (TFrame.of_below hb2)).trans q2⟩
def TxS (w:World) (N T:Nat) (st:St):Prop:=Tx w N T st.1 st.2
theorem QdL (N T:Nat) (st:St) (s:ByteArray) (w:World) (h:TxS w N T st) (hF:Q3n st) (hI:Q32 st) (hB:st.1.size≤200000) (hs:Q09 s=true) :
  Calls Tryz.prog 51 #[.pointer (some ⟨T,0,none⟩),.string s] w fun e w'=>e=.returned (.tuple #[])∧TxS w' N T (Q30 st s)∧TFrame N w w':=by
 have h1:=hF.1
 exact Qg0 N T st.1 st.2 _ s w h (by omega) (by omega) hI hs
set_option maxRecDepth 100000 in
set_option maxHeartbeats 4000000 in
theorem QeO (N T:Nat) (st:St) (l:List RI) (part:Nat) (a:Option Addr) (c:Nat) (w:World) (h:TxS w N T st) (hF:Q3n st) (hI:Q32 st) (hB:st.1.size≤140000) (hl:Q1H l part) (hrow:RowAt w N a (rcI l)) (hN:N≤w.heap.size) :
  Calls Tryz.prog 52 #[.pointer (some ⟨T,0,none⟩),.slice a l.length c] w fun e w'=>e=.returned (.tuple #[])∧TxS w' N T ((l.map RI.nat).foldl Q08 st)∧TFrame N w w':=by
 have HRow:=Qa hrow
 have HL:=Qa hl
 have hlen:=hl.1
 have H:=Qa h
 have HAt:=Qa (fun (i:Nat) (hi:i < l.length)=>Q9c Q08 RI.nat l st i hi)
 have HRest:=Qa (Q6t Q08 RI.nat l st)
 have HFine:=Qa (fun i=>Q2a hF hB (l.take i) (fun x hx=>Q1L hl x (List.mem_of_mem_take hx)))
 have HKn:=Qa (fun i=>Q5X hI (l.take i) (fun x hx=>Q1L hl x (List.mem_of_mem_take hx)))
 clear hF hrow hl h hI
 obtain ⟨res,hres⟩:∃ r,(l.map RI.nat).foldl Q08 st=r:=⟨_,rfl⟩
 rw [hres]
 have HRes:=Qa hres
 clear hres
 go_enter Tryz.func52,Tryz.ntmps52
 go_wp2_with fail
 go_loopw [4] (fun i w'=>∃ j:Nat,i=.int .i64 j∧j≤l.length∧Hid (TxS w' N T (((l.take j).map RI.nat).foldl Q08 st))∧Hid (TFrame N w w')) (fun i _=>l.length - (intOf i).toNat)
 case atStart=>exact ⟨0,rfl,Nat.zero_le _,H,TFrame.refl _ _⟩
 case round =>
  obtain ⟨j,rfl,hj,hW,hG⟩:=hrel
  have hfin:=Q6 HFine j
  have hkn:=Q6 HKn j
  by_cases cj:j < l.length
  ·by_cases cf:65535 < (((l.take j).map RI.nat).foldl Q08 st).1.size
   ·have hend:((l.take j).map RI.nat).foldl Q08 st=res:=by
     rw [←Q6 HRes,Q6 HRest j]
     exact (Q5o Q08 Qat _ cf _).symm
    have HEnd:=Qa hend
    have hz:=hfin.2
    clear hend hfin hkn
    generalize ((l.take j).map RI.nat).foldl Q08 st=s at *
    obtain ⟨B,K⟩:=s
    obtain ⟨ah,ch,hR,hNT,o1⟩:=Q6 hW
    obtain ⟨c0,c1,z0,z1⟩:=Q0t hR
    clear hR o1
    simp only at *
    go_wp2_with fail
    go_end0
    exact ⟨rfl,by rw [←Q6 HEnd]; exact Q6 hW,Q6 hG⟩
   ·have hnx:=Q6 HAt j cj
    have hq:=((Q6 HL).2 j cj).1
    obtain ⟨b,o,rfl,hb,x0,x1,x2,x3,x4⟩:=Q2R ((Q6 HRow).below ((Q6 hG).below hN)) j cj
    generalize ((l.take j).map RI.nat).foldl Q08 st=s at *
    have hst:Q08 s l[j].nat=Q6K s l[j].nat:=by unfold Q08; rw [if_neg cf]
    rw [hst] at hnx
    obtain ⟨n1,n2,n3,n4,n5,n6,n7⟩:=Q3j hq
    obtain ⟨y1,y2,y3,y4,y5⟩:=id hq
    unfold Q1J at y2 y3
    obtain ⟨s1,hs1⟩:∃ s',Q30 s l[j].nat.name=s':=⟨_,rfl⟩
    obtain ⟨s5,hs5⟩:∃ s',Q1s s l[j].nat=s':=⟨_,rfl⟩
    have f1:=Q3T hfin.1 l[j].nat.name
    rw [hs1] at f1
    have f5:=QaE hfin.1 l[j].nat
    rw [hs5] at f5
    have hk5:=Q91 hkn hq
    rw [hs5] at hk5
    have hs51:s5.1=s1.1++wd l[j].nat.ty++wd l[j].nat.cl++(wd (l[j].nat.ttl / 65536)++wd (l[j].nat.ttl % 65536)):=by
     rw [←hs5,←hs1]
     show (Q30 s l[j].nat.name).1++wd l[j].nat.ty++wd l[j].nat.cl++wd (l[j].nat.ttl / 65536)++wd (l[j].nat.ttl % 65536)=_
     rw [Q07 _ (wd (l[j].nat.ttl / 65536))]
    have hs52:s5.2=s1.2:=by rw [←hs5,←hs1]; rfl
    have key1:=fun W (h:TxS W N T s)=>QdL N T s l[j].nat.name W h hfin.1 hkn (by omega) n6
    rw [hs1] at key1
    have key2:=fun w=>Q4t l[j].ty l[j].nat.ty w (by show l[j].ty=((l[j].ty.toNat:Nat):Int); omega) (by omega)
    have key3:=fun w=>Q4t l[j].cl l[j].nat.cl w (by show l[j].cl=((l[j].cl.toNat:Nat):Int); omega) (by omega)
    have key4:=fun w=>Qin l[j].ttl l[j].nat.ttl w (by show l[j].ttl=((l[j].ttl.toNat:Nat):Int); omega) (by omega)
    have f51:=f5.1.1
    have key5:=fun W (h:Tx W N T s5.1 s5.2)=>Qlj N T s5.1 s5.2 l[j].nat.ty l[j].nat.data W h (by omega) f5.1.2 (by omega) hk5 n7
    have e6:((l[j].nat.ty:Nat):Int)=l[j].ty:=by show ((l[j].ty.toNat:Nat):Int)=_; omega
    have hwr:Q6K s l[j].nat=(s5.1++wd (Q1B s5.2 l[j].nat.data l[j].nat.ty (s5.1.size+2)).1.size++(Q1B s5.2 l[j].nat.data l[j].nat.ty (s5.1.size+2)).1,(Q1B s5.2 l[j].nat.data l[j].nat.ty (s5.1.size+2)).2):=by unfold Q6K; rw [hs5]
    rw [e6] at key5
    obtain ⟨sn,hsn⟩:∃ s',Q6K s l[j].nat=s':=⟨_,rfl⟩
    have key5':∀ W,Tx W N T s5.1 s5.2→Calls Tryz.prog 88 #[.pointer (some ⟨T,0,none⟩),.int .i64 l[j].ty,.string l[j].data] W fun e w'=>e=.returned (.tuple #[])∧TxS w' N T sn∧TFrame N W w':=by
     intro W h
     rw [←hsn,hwr]
     exact key5 W h
    rw [hsn] at hnx
    have z1:=Q00 l[j].nat.ty
    have z2:=Q00 l[j].nat.cl
    have z3:(wd (l[j].nat.ttl / 65536)++wd (l[j].nat.ttl % 65536)).size=4:=by rw [ByteArray.size_append,Q00,Q00]
    have hB1:s1.1.size≤70000:=by omega
    have HB5:=Qa hs51
    have HK5:=Qa hs52
    have K1:=Qa key1
    have K2:=Qa key2
    have K3:=Qa key3
    have K4:=Qa key4
    have K5:=Qa key5'
    have HNx:=Qa hnx
    clear key1 key2 key3 key4 key5 key5' hnx hst hs1 hs5 hs51 hs52 hwr hsn f1 f5 f51 hk5 hfin hkn n1 n2 n3 n4 n5 n6 n7 y1 y2 y3 y4 y5 e6 hq
    generalize wd (l[j].nat.ttl / 65536)++wd (l[j].nat.ttl % 65536)=q3 at *
    generalize wd l[j].nat.ty=q1 at *
    generalize wd l[j].nat.cl=q2 at *
    have e7:l[j].nat.name=l[j].name:=rfl
    rw [e7] at K1
    clear e7
    generalize l[j]=x at *
    obtain ⟨nm,ty,kl,ttl,dt⟩:=x
    simp only at *
    obtain ⟨B,K⟩:=s
    obtain ⟨ah,ch,hR,hNT,o1⟩:=Q6 hW
    obtain ⟨c0,c1,v0,v1⟩:=Q0t hR
    clear hR o1
    simp only at *
    have hNw:N≤wr.heap.size:=Nat.le_trans hN (Q6 hG).size
    have hal:=(Below.refl wr.heap.size wr).alloc (Nat.le_refl _) (.cells #[.string nm,.int .i64 ty,.int .i64 kl,.int .i64 ttl,.string dt] 61)
    have HT0:=Qa ((Q6 hW).below hal)
    have HX0:=Qa (heap_alloc_new wr (.cells #[.string nm,.int .i64 ty,.int .i64 kl,.int .i64 ttl,.string dt] 61))
    have HG0:=Qa ((Q6 hG).trans (TFrame.of_below hal))
    obtain ⟨X,hX⟩:∃ X,wr.heap.size=X:=⟨_,rfl⟩
    clear hal
    go_wp2_with fail
    refine (Q6 K1 _ (Q6 HT0)).mono ?_
    rintro e w1 ⟨rfl,h1,g1⟩
    have HX1:=Qa (g1.box (Q6 HX0) (by decide) (by decide))
    rw [hX] at HX1
    have G1:=Qa ((Q6 HG0).trans g1)
    have H1:=Qa h1
    clear h1 g1 HX0 HT0 HG0 hW hG c0 c1 v0 v1 x0 x1 x2 x3 x4 hX
    obtain ⟨⟨b0,b1,b2,b3,b4⟩,r0,r1,r2,r3,r4⟩:=Q1a (Q6 HX1)
    obtain ⟨B1,KK1⟩:=s1
    obtain ⟨ah1,ch1,hR1,hNT1,o11⟩:=Q6 H1
    obtain ⟨c0,c1,v0,v1⟩:=Q0t hR1
    have HR1:=Qa hR1
    have hlt1:=Qb hR1
    have hltX:=Qb (Q6 HX1)
    have hne:X≠T:=fun e=>by subst e; have:=Q6 HX1; rw [hR1] at this; cases this
    have hne2:T≠X:=Ne.symm hne
    clear hR1 o11
    simp only at *
    have q12:(B1++q1).size=B1.size+2:=by rw [ByteArray.size_append]; omega
    have q13:(B1++q1++q2).size=B1.size+4:=by rw [ByteArray.size_append]; omega
    have g1:¬ (9223372036854775807 < B1.size+2):=by omega
    have g2:¬ (9223372036854775807 < B1.size+2+2):=by omega
    have g3:¬ (9223372036854775807 < B1.size+4):=by omega
    have g4:¬ (9223372036854775807 < B1.size+4+4):=by omega
    have g5:¬ (9223372036854775807 < B1.size+8):=by omega
    go_wp2_with fail
    go_cut [4,5] (fun i p w'=>i=.int .i64 j∧p=.pointer (some ⟨X,0,none⟩)∧Hid (Tx w' N T (B1++q1++q2++q3) KK1)∧Hid (TFrame N w w')∧Hid (w'.heap[X]? = some (.cells #[.string nm,.int .i64 ty,.int .i64 kl,.int .i64 ttl,.string dt] 61 (0,0))))
    case first =>
     refine wp_region_noPanic ?_
     refine Q3E (fun u=>u.cell? ⟨T,0,none⟩=some (.string B1)∧u.cell? ⟨X,1,none⟩=some (.int .i64 ty)∧u.cell? ⟨X,2,none⟩=some (.int .i64 kl)∧u.cell? ⟨X,3,none⟩=some (.int .i64 ttl)) 19 (by kernel_rfl) ?_
     have hS1:w1.drew.cell? ⟨T,0,none⟩=some (.string B1)∧w1.drew.cell? ⟨X,1,none⟩=some (.int .i64 ty)∧w1.drew.cell? ⟨X,2,none⟩=some (.int .i64 kl)∧w1.drew.cell? ⟨X,3,none⟩=some (.int .i64 ttl):=⟨c0,b1,b2,b3⟩
     refine Qq (i:=0) (v:=?_) rfl rfl (by kernel_rfl) (by kernel_rfl) (by kernel_rfl) (by kernel_rfl) (fun _ _ _ h=>h) (Or.inl ⟨by rfl,?_⟩) hS1 ?_
     rotate_left
     ·intro u hu
      obtain ⟨u0,u1,u2,u3⟩:=hu
      go_simp
      try with_reducible rfl
     try simp only [Act.put]
     refine Qq (i:=1) (v:=?_) rfl rfl (by kernel_rfl) (by kernel_rfl) (by kernel_rfl) (by kernel_rfl) (fun _ _ _ h=>h) (Or.inl ⟨by rfl,?_⟩) hS1 ?_
     rotate_left
     ·intro u hu
      obtain ⟨u0,u1,u2,u3⟩:=hu
      go_simp
      try with_reducible rfl
     try simp only [Act.put]
     refine Qq (i:=2) (v:=?_) rfl rfl (by kernel_rfl) (by kernel_rfl) (by kernel_rfl) (by kernel_rfl) (fun _ _ _ h=>h) (Or.inl ⟨by rfl,?_⟩) hS1 ?_
     rotate_left
     ·intro u hu
      obtain ⟨u0,u1,u2,u3⟩:=hu
      go_simp
      try with_reducible rfl
     try simp only [Act.put]
     refine Qq (i:=3) (v:=?_) rfl rfl (by kernel_rfl) (by kernel_rfl) (by kernel_rfl) (by kernel_rfl) (fun _ _ _ h=>h) (Or.inl ⟨by rfl,?_⟩) hS1 ?_
     rotate_left
     ·intro u hu
      obtain ⟨u0,u1,u2,u3⟩:=hu
      go_simp
      try with_reducible rfl
     try simp only [Act.put]
     refine Qq (i:=4) (v:=?_) rfl rfl (by kernel_rfl) (by kernel_rfl) (by kernel_rfl) (by kernel_rfl) (fun _ _ _ h=>h) (Or.inl ⟨by rfl,?_⟩) hS1 ?_
     rotate_left
     ·intro u hu
      obtain ⟨u0,u1,u2,u3⟩:=hu
      go_simp
      try with_reducible rfl
     try simp only [Act.put]
     refine Qq (i:=5) (v:=?_) rfl rfl (by kernel_rfl) (by kernel_rfl) (by kernel_rfl) (by kernel_rfl) (fun _ _ _ h=>h) (Or.inl ⟨by rfl,?_⟩) hS1 ?_
     rotate_left
     ·intro u hu
      obtain ⟨u0,u1,u2,u3⟩:=hu
      go_simp
      try with_reducible rfl
     try simp only [Act.put]
     refine Qq (i:=6) (v:=?_) rfl rfl (by kernel_rfl) (by kernel_rfl) (by kernel_rfl) (by kernel_rfl) (fun _ _ _ h=>h) (Or.inl ⟨by rfl,?_⟩) hS1 ?_
     rotate_left
     ·intro u hu
      obtain ⟨u0,u1,u2,u3⟩:=hu
      go_simp
      try with_reducible rfl
     try simp only [Act.put]
     refine Qq (i:=9) (v:=?_) rfl rfl (by kernel_rfl) (by kernel_rfl) (by kernel_rfl) (by kernel_rfl) (fun _ _ _ h=>h) (Or.inl ⟨by rfl,?_⟩) hS1 ?_
     rotate_left
     ·intro u hu
      obtain ⟨u0,u1,u2,u3⟩:=hu
      go_simp
      try with_reducible rfl
     try simp only [Act.put]
     refine Qq (i:=10) (v:=?_) rfl rfl (by kernel_rfl) (by kernel_rfl) (by kernel_rfl) (by kernel_rfl) (fun _ _ _ h=>h) (Or.inl ⟨by rfl,?_⟩) hS1 ?_
     rotate_left
     ·intro u hu
      obtain ⟨u0,u1,u2,u3⟩:=hu
      go_simp
      try with_reducible rfl
     try simp only [Act.put]
     refine Qq (i:=13) (v:=?_) rfl rfl (by kernel_rfl) (by kernel_rfl) (by kernel_rfl) (by kernel_rfl) (fun _ _ _ h=>h) (Or.inl ⟨by rfl,?_⟩) hS1 ?_
     rotate_left
     ·intro u hu
      obtain ⟨u0,u1,u2,u3⟩:=hu
      go_simp
      try with_reducible rfl
     try simp only [Act.put]
     refine Qq (i:=14) (v:=?_) rfl rfl (by kernel_rfl) (by kernel_rfl) (by kernel_rfl) (by kernel_rfl) (fun _ _ _ h=>h) (Or.inl ⟨by rfl,?_⟩) hS1 ?_
     rotate_left
     ·intro u hu
      obtain ⟨u0,u1,u2,u3⟩:=hu
      go_simp
      try with_reducible rfl
     try simp only [Act.put]
     refine Q1m (i:=7) rfl (by kernel_rfl) (fun K hK=>?_)
     go_simp
     refine (Q6 K2 _).mono ?_
     rintro e w2 ⟨rfl,hb2⟩
     have hS2:=(⟨(hb2.cell (p:=⟨T,0,none⟩) (Qb (Q6 HR1))).trans hS1.1,(hb2.cell (p:=⟨X,1,none⟩) (Qb (Q6 HX1))).trans hS1.2.1,(hb2.cell (p:=⟨X,2,none⟩) (Qb (Q6 HX1))).trans hS1.2.2.1,(hb2.cell (p:=⟨X,3,none⟩) (Qb (Q6 HX1))).trans hS1.2.2.2⟩:w2.cell? ⟨T,0,none⟩=some (.string B1)∧w2.cell? ⟨X,1,none⟩=some (.int .i64 ty)∧w2.cell? ⟨X,2,none⟩=some (.int .i64 kl)∧w2.cell? ⟨X,3,none⟩=some (.int .i64 ttl))
     refine hK _ _ (fun _=>hS2) ?_
     clear hK K
     try simp only [Act.put]
     have HX2:=Qa ((hb2.block X (Qb (Q6 HX1))).trans (Q6 HX1))
     have HR2:=Qa ((hb2.block T (Qb (Q6 HR1))).trans (Q6 HR1))
     refine Qq (i:=8) (v:=?_) rfl rfl (by kernel_rfl) (by kernel_rfl) (by kernel_rfl) (by kernel_rfl) (fun _ _ _ h=>h) (Or.inl ⟨by rfl,?_⟩) hS2 ?_
     rotate_left
     ·intro u hu
      obtain ⟨u0,u1,u2,u3⟩:=hu
      go_simp
      try with_reducible rfl
     try simp only [Act.put]
     refine Q1m (i:=11) rfl (by kernel_rfl) (fun K hK=>?_)
     go_simp
     refine (Q6 K3 _).mono ?_
     rintro e w3 ⟨rfl,hb3⟩
     have hS3:=(⟨(hb3.cell (p:=⟨T,0,none⟩) (Qb (Q6 HR2))).trans hS2.1,(hb3.cell (p:=⟨X,1,none⟩) (Qb (Q6 HX2))).trans hS2.2.1,(hb3.cell (p:=⟨X,2,none⟩) (Qb (Q6 HX2))).trans hS2.2.2.1,(hb3.cell (p:=⟨X,3,none⟩) (Qb (Q6 HX2))).trans hS2.2.2.2⟩:w3.cell? ⟨T,0,none⟩=some (.string B1)∧w3.cell? ⟨X,1,none⟩=some (.int .i64 ty)∧w3.cell? ⟨X,2,none⟩=some (.int .i64 kl)∧w3.cell? ⟨X,3,none⟩=some (.int .i64 ttl))
     refine hK _ _ (fun _=>hS3) ?_
     clear hK K
     try simp only [Act.put]
     have HX3:=Qa ((hb3.block X (Qb (Q6 HX2))).trans (Q6 HX2))
     have HR3:=Qa ((hb3.block T (Qb (Q6 HR2))).trans (Q6 HR2))
     refine Qq (i:=12) (v:=?_) rfl rfl (by kernel_rfl) (by kernel_rfl) (by kernel_rfl) (by kernel_rfl) (fun _ _ _ h=>h) (Or.inl ⟨by rfl,?_⟩) hS3 ?_
     rotate_left
     ·intro u hu
      obtain ⟨u0,u1,u2,u3⟩:=hu
      go_simp
      try with_reducible rfl
     try simp only [Act.put]
     refine Q1m (i:=15) rfl (by kernel_rfl) (fun K hK=>?_)
     go_simp
     refine (Q6 K4 _).mono ?_
     rintro e w4 ⟨rfl,hb4⟩
     have hS4:=(⟨(hb4.cell (p:=⟨T,0,none⟩) (Qb (Q6 HR3))).trans hS3.1,(hb4.cell (p:=⟨X,1,none⟩) (Qb (Q6 HX3))).trans hS3.2.1,(hb4.cell (p:=⟨X,2,none⟩) (Qb (Q6 HX3))).trans hS3.2.2.1,(hb4.cell (p:=⟨X,3,none⟩) (Qb (Q6 HX3))).trans hS3.2.2.2⟩:w4.cell? ⟨T,0,none⟩=some (.string B1)∧w4.cell? ⟨X,1,none⟩=some (.int .i64 ty)∧w4.cell? ⟨X,2,none⟩=some (.int .i64 kl)∧w4.cell? ⟨X,3,none⟩=some (.int .i64 ttl))
     refine hK _ _ (fun _=>hS4) ?_
     clear hK K
     try simp only [Act.put]
     have HX4:=Qa ((hb4.block X (Qb (Q6 HX3))).trans (Q6 HX3))
     have HR4:=Qa ((hb4.block T (Qb (Q6 HR3))).trans (Q6 HR3))
     refine Qq (i:=16) (v:=?_) rfl rfl (by kernel_rfl) (by kernel_rfl) (by kernel_rfl) (by kernel_rfl) (fun _ _ _ h=>h) (Or.inl ⟨by rfl,?_⟩) hS4 ?_
     rotate_left
     ·intro u hu
      obtain ⟨u0,u1,u2,u3⟩:=hu
      go_simp
      try with_reducible rfl
     try simp only [Act.put]
     refine Q1m (i:=17) rfl (by kernel_rfl) (fun K hK=>?_)
     go_simp
     refine hK _ _ (fun _=>hS4) ?_
     clear hK K
     try simp only [Act.put]
     refine Q1m (i:=18) rfl (by kernel_rfl) (fun K hK=>?_)
     go_simp
     refine hK _ _ (fun _=>hS4) ?_
     clear hK K
     try simp only [Act.put]
     obtain ⟨d0,d1,u0,u1⟩:=Q0t (Q6 HR4)
     refine Q1m (i:=19) rfl (by kernel_rfl) (fun K hK=>?_)
     go_simp
     refine hK _ _ (fun h=>absurd rfl h) (Q6p (by kernel_rfl) ?_ _)
     clear hK K
     refine NoPanic.normal ?_
     go_wp2_with fail
     go_meet
     have hb5:=((Q0x hb2).trans (hb3.mono hb2.size)).trans (hb4.mono (Nat.le_trans hb2.size hb3.size))
     obtain ⟨p1,p2⟩:=Q8A ((Q6 H1).below hb5) (B1++q1++q2++q3)
     exact ⟨rfl,rfl,p1,((Q6 G1).trans (TFrame.of_below hb5)).trans p2,(Qf hne _ _).trans ((hb5.block X hltX).trans (Q6 HX1))⟩
    case rest =>
     obtain ⟨rfl,rfl,h5,G5,HX5⟩:=hcut
     clear c0 c1 v0 v1 b0 b1 b2 b3 b4 r0 r1 r2 r3 r4
     obtain ⟨⟨b0,b1,b2,b3,b4⟩,r0,r1,r2,r3,r4⟩:=Q1a (Q6 HX5)
     rw [←Q6 HB5,←Q6 HK5] at h5
     go_wp2_with fail
     refine (Q6 K5 _ (Q6 h5)).mono ?_
     rintro e w6 ⟨rfl,h6,g6⟩
     have H6:=Qa h6
     have G6:=Qa ((Q6 G5).trans g6)
     clear h6 g6 b0 b1 b2 b3 b4 r0 r1 r2 r3 r4
     go_wp2_with fail
     go_roundw
     case rel=>exact ⟨j+1,by go_num,by omega,by rw [Q6 HNx]; exact H6,G6⟩
     case measure=>simp [intOf]; omega
  ·have hjn:l.take j=l:=List.take_of_length_le (by omega)
   rw [hjn,Q6 HRes] at hW
   clear hfin hjn hkn
   go_wp2_with fail
   go_end0
   exact ⟨rfl,Q6 hW,Q6 hG⟩
theorem Qm0 (w:World) (N:Nat) (hN:N≤w.heap.size):Tx (w.alloc (.cells #[.string ⟨#[]⟩,.slice none 0 0] 101)) N w.heap.size ⟨#[]⟩ [] :=
 ⟨none,0,heap_alloc_new _ _,hN,World.ownsRow_nil _ _ _ _⟩
theorem Qhq (m:Msg):Q32 (Q3G m):=Inv.nil _ _
def QmR (w:World) (N T M:Nat) (cs:Array Value) (st:St):Prop:=TxS w N T st∧w.heap[M]? = some (.cells cs 32 (0,0))
set_option maxRecDepth 100000 in
set_option maxHeartbeats 8000000 in
theorem Q3Q (m:MI) (v:Value) (w:World) (hm:MsgAt w w.heap.size v m) :
  Calls Tryz.prog 26 #[v] w fun e w'=>Q7r m e∧Below w.heap.size w w':=by
 obtain ⟨N,hN⟩:∃ N,w.heap.size=N:=⟨_,rfl⟩
 rw [hN] at hm ⊢
 have HM:=Qa hm
 have hsz:m.q.length≤m.q.length:=Nat.le_refl _
 obtain ⟨a1,c1,a2,c2,a3,c3,a4,c4,rfl,r1,r2,r3,r4,_⟩:=hm
 obtain ⟨v,hv⟩:∃ v,Value.agg #[.int .i64 m.id,.int .i64 m.flags,.slice a1 m.q.length c1,.slice a2 m.a.length c2,.slice a3 m.u.length c3,.slice a4 m.x.length c4]=v:=⟨_,rfl⟩
 have HM':Hid (MsgAt w N v m):=by show MsgAt _ _ _ _; rw [←hv]; exact Q6 HM
 clear HM hsz
 have key1:=fun W (hb:Below N w W) (hs:N≤W.heap.size)=>QjC m v N W ((Q6 HM').below hb) hs
 rw [←hv] at key1
 have K1:=Qa key1
 have HS:Hid (∀ s x,SerIs m s x↔((¬ Q1A m∧s=⟨#[]⟩∧x=7)∨(Q1A m∧65535 < (Q3m m.nat).1.size∧s=⟨#[]⟩∧x=1)∨(Q1A m∧¬ 65535 < (Q3m m.nat).1.size∧s=(Q3m m.nat).1∧x=0))):=fun s x=>Iff.rfl
 unfold Q7r
 generalize SerIs m=S at *
 have hR1:=fun W (hb:Below N w W)=>r1.below hb
 have hR2:=fun W (hb:Below N w W)=>r2.below hb
 have hR3:=fun W (hb:Below N w W)=>r3.below hb
 have hR4:=fun W (hb:Below N w W)=>r4.below hb
 have HR1:=Qa hR1
 have HR2:=Qa hR2
 have HR3:=Qa hR3
 have HR4:=Qa hR4
 clear key1 hv HM' r1 r2 r3 r4 hR1 hR2 hR3 hR4
 generalize hB0:(w.alloc (.cells #[.int .i64 m.id,.int .i64 m.flags,.slice a1 m.q.length c1,.slice a2 m.a.length c2,.slice a3 m.u.length c3,.slice a4 m.x.length c4] 32))=W0
 have hW0:W0.heap[N]? = some (.cells #[.int .i64 m.id,.int .i64 m.flags,.slice a1 m.q.length c1,.slice a2 m.a.length c2,.slice a3 m.u.length c3,.slice a4 m.x.length c4] 32 (0,0)):=by rw [←hB0,←hN]; exact heap_alloc_new _ _
 have hB1:Below N w W0:=by rw [←hB0,←hN]; exact (Below.refl _ _).alloc (Nat.le_refl _) _
 have hs0:W0.heap.size=N+1:=by rw [←hB0]; simp; omega
 have HB0:=Qa hB0
 clear hB0
 obtain ⟨⟨b0,b1,b2,b3,b4,b5⟩,y0,y1,y2,y3,y4,y5⟩:=Qh hW0
 go_enter Tryz.func26,Tryz.ntmps26
 go_wp2_with fail
 rw [Q6 HB0]
 clear HB0
 refine (Q6 K1 _ hB1 (by omega)).mono ?_
 rintro e w1 ⟨⟨b,rfl,hb⟩,hb1⟩
 have HOk:=Qa hb
 have hB2:=hB1.trans (hb1.mono (by omega))
 have X1:=Qa ((hb1.block N (by omega)).trans hW0)
 have hsz:=hB2.size
 clear hb hW0 b0 b1 b2 b3 b4 b5 y0 y1 y2 y3 y4 y5 K1
 cases b with
 | false =>
  go_wp2_with fail
  go_ret2
  exact ⟨⟨_,_,rfl,(Q6 HS _ _).2 (.inl ⟨fun h=>absurd ((Q6 HOk).2 h) (by simp),rfl,rfl⟩)⟩,hB2⟩
 | true =>
 have hok:Q1A m:=(Q6 HOk).1 (by simp)
 have HOK:=Qa hok
 obtain ⟨o1,o2,o3,o4,o5,o6⟩:=hok
 unfold Q1J at o1 o2
 have l1:=o3.1
 have l2:=o4.1
 have l3:=o5.1
 have l4:=o6.1
 have hltN:=Qb (Q6 X1)
 have key2:=fun w=>Q4t m.id m.nat.id w (by show m.id=((m.id.toNat:Nat):Int); omega) (by show m.id.toNat < _; omega)
 have key3:=fun w=>Q4t m.flags m.nat.flags w (by show m.flags=((m.flags.toNat:Nat):Int); omega) (by show m.flags.toNat < _; omega)
 have key4:=fun w=>Q4t ((m.q.length:Nat):Int) m.q.length w rfl (by omega)
 have key5:=fun w=>Q4t ((m.a.length:Nat):Int) m.a.length w rfl (by omega)
 have key6:=fun w=>Q4t ((m.u.length:Nat):Int) m.u.length w rfl (by omega)
 have key7:=fun w=>Q4t ((m.x.length:Nat):Int) m.x.length w rfl (by omega)
 have z1:=Q00 m.nat.id
 have z2:=Q00 m.nat.flags
 have z3:=Q00 m.q.length
 have z4:=Q00 m.a.length
 have z5:=Q00 m.u.length
 have z6:=Q00 m.x.length
 have htop:(wd m.nat.id++wd m.nat.flags++wd m.q.length++wd m.a.length++wd m.u.length++wd m.x.length,([]:List (ByteArray × Nat)))=Q3G m.nat:=by
  unfold Q3G MI.nat
  simp only [List.length_map]
 have HTop:=Qa htop
 have K2:=Qa key2
 have K3:=Qa key3
 have K4:=Qa key4
 have K5:=Qa key5
 have K6:=Qa key6
 have K7:=Qa key7
 clear key2 key3 key4 key5 key6 key7 htop
 generalize wd m.nat.id=t1 at *
 generalize wd m.nat.flags=t2 at *
 generalize wd m.q.length=t3 at *
 generalize wd m.a.length=t4 at *
 generalize wd m.u.length=t5 at *
 generalize wd m.x.length=t6 at *
 have e2:(t1++t2).size=4:=by rw [ByteArray.size_append]; omega
 have e3:(t1++t2++t3).size=6:=by rw [ByteArray.size_append]; omega
 have e4:(t1++t2++t3++t4).size=8:=by rw [ByteArray.size_append]; omega
 have e5:(t1++t2++t3++t4++t5).size=10:=by rw [ByteArray.size_append]; omega
 obtain ⟨T,hT⟩:∃ T,w1.heap.size=T:=⟨_,rfl⟩
 have hTx:=Qm0 w1 N (by omega)
 rw [hT] at hTx
 have hal:=(Below.refl w1.heap.size w1).alloc (Nat.le_refl _) (.cells #[.string ⟨#[]⟩,.slice none 0 0] 101)
 have HTx:=Qa hTx
 have HB3:=Qa (hB2.trans (hal.mono (show N≤w1.heap.size by omega)))
 have HX3:=Qa ((hal.block N hltN).trans (Q6 X1))
 have hsT:(w1.alloc (.cells #[.string ⟨#[]⟩,.slice none 0 0] 101)).heap.size=T+1:=by simp; omega
 have hTN:T≠N:=by omega
 have hNT:N≠T:=by omega
 clear hTx hal
 go_wp2_with fail
 generalize w1.alloc (.cells #[.string ⟨#[]⟩,.slice none 0 0] 101)=w2 at *
 obtain ⟨⟨b0,b1,b2,b3,b4,b5⟩,y0,y1,y2,y3,y4,y5⟩:=Qh (Q6 HX3)
 obtain ⟨ah,ch,hRT,_,_⟩:=Q6 HTx
 obtain ⟨d0,d1,v0,v1⟩:=Q0t hRT
 have HRT:=Qa hRT
 clear hRT
 go_cut [5] (fun p w'=>p=.pointer (some ⟨T,0,none⟩)∧Hid (Tx w' N T (t1++t2++t3++t4++t5++t6) [])∧Hid (Below N w w')∧Hid (w'.heap[N]? = some (.cells #[.int .i64 m.id,.int .i64 m.flags,.slice a1 m.q.length c1,.slice a2 m.a.length c2,.slice a3 m.u.length c3,.slice a4 m.x.length c4] 32 (0,0))))
 case first =>
  go_region_held3 (fun u=>u.cell? ⟨N,0,none⟩=some (.int .i64 m.id)∧u.cell? ⟨N,1,none⟩=some (.int .i64 m.flags)∧u.cell? ⟨N,2,none⟩=some (.slice a1 m.q.length c1)∧u.cell? ⟨N,3,none⟩=some (.slice a2 m.a.length c2)∧u.cell? ⟨N,4,none⟩=some (.slice a3 m.u.length c3)∧u.cell? ⟨N,5,none⟩=some (.slice a4 m.x.length c4)) (go_keep)
   (first
   | (go_at_call_of 50 (Value.int IntKind.i64 m.id); refine (Q6 K2 _).mono ?_; rintro e u4 ⟨rfl,hb4⟩; have HX4:=Qa ((hb4.block N (Qb (Q6 HX3))).trans (Q6 HX3)); obtain ⟨⟨n0,n1,n2,n3,n4,n5⟩,_⟩:=Qh (Q6 HX4); have HT4:=Qa ((hb4.block T (Qb (Q6 HRT))).trans (Q6 HRT)); obtain ⟨x0,x1,x2,x3⟩:=Q0t (Q6 HT4))
   | (go_at_call_of 50 (Value.int IntKind.i64 m.flags); refine (Q6 K3 _).mono ?_; rintro e u5 ⟨rfl,hb5⟩; have HX5:=Qa ((hb5.block N (Qb (Q6 HX4))).trans (Q6 HX4)); obtain ⟨⟨n0,n1,n2,n3,n4,n5⟩,_⟩:=Qh (Q6 HX5); have HT5:=Qa ((hb5.block T (Qb (Q6 HT4))).trans (Q6 HT4)); obtain ⟨x0,x1,x2,x3⟩:=Q0t (Q6 HT5))
   | (go_at_call_of 50 (Value.int IntKind.i64 (m.q.length:Int)); refine (Q6 K4 _).mono ?_; rintro e u6 ⟨rfl,hb6⟩; have HX6:=Qa ((hb6.block N (Qb (Q6 HX5))).trans (Q6 HX5)); obtain ⟨⟨n0,n1,n2,n3,n4,n5⟩,_⟩:=Qh (Q6 HX6); have HT6:=Qa ((hb6.block T (Qb (Q6 HT5))).trans (Q6 HT5)); obtain ⟨x0,x1,x2,x3⟩:=Q0t (Q6 HT6))
   | (go_at_call_of 50 (Value.int IntKind.i64 (m.a.length:Int)); refine (Q6 K5 _).mono ?_; rintro e u7 ⟨rfl,hb7⟩; have HX7:=Qa ((hb7.block N (Qb (Q6 HX6))).trans (Q6 HX6)); obtain ⟨⟨n0,n1,n2,n3,n4,n5⟩,_⟩:=Qh (Q6 HX7); have HT7:=Qa ((hb7.block T (Qb (Q6 HT6))).trans (Q6 HT6)); obtain ⟨x0,x1,x2,x3⟩:=Q0t (Q6 HT7))
   | (go_at_call_of 50 (Value.int IntKind.i64 (m.u.length:Int)); refine (Q6 K6 _).mono ?_; rintro e u8 ⟨rfl,hb8⟩; have HX8:=Qa ((hb8.block N (Qb (Q6 HX7))).trans (Q6 HX7)); obtain ⟨⟨n0,n1,n2,n3,n4,n5⟩,_⟩:=Qh (Q6 HX8); have HT8:=Qa ((hb8.block T (Qb (Q6 HT7))).trans (Q6 HT7)); obtain ⟨x0,x1,x2,x3⟩:=Q0t (Q6 HT8))
   | (go_at_call_of 50 (Value.int IntKind.i64 (m.x.length:Int)); refine (Q6 K7 _).mono ?_; rintro e u9 ⟨rfl,hb9⟩; have HX9:=Qa ((hb9.block N (Qb (Q6 HX8))).trans (Q6 HX8)); obtain ⟨⟨n0,n1,n2,n3,n4,n5⟩,_⟩:=Qh (Q6 HX9); have HT9:=Qa ((hb9.block T (Qb (Q6 HT8))).trans (Q6 HT8)); obtain ⟨x0,x1,x2,x3⟩:=Q0t (Q6 HT9)))
  all_goals go_wp2_with fail
  all_goals go_meet
  all_goals
   have hb10:=(((((Q0x hb4).trans (hb5.mono hb4.size)).trans (hb6.mono (Nat.le_trans hb4.size hb5.size))).trans (hb7.mono (Nat.le_trans hb4.size (Nat.le_trans hb5.size hb6.size)))).trans (hb8.mono (Nat.le_trans hb4.size (Nat.le_trans hb5.size (Nat.le_trans hb6.size hb7.size))))).trans (hb9.mono (Nat.le_trans hb4.size (Nat.le_trans hb5.size (Nat.le_trans hb6.size (Nat.le_trans hb7.size hb8.size)))))
   obtain ⟨p1,p2⟩:=Q8A ((Q6 HTx).below hb10) (t1++t2++t3++t4++t5++t6)
   exact ⟨rfl,p1,((Q6 HB3).trans (hb10.mono (show N≤w2.heap.size by omega))).trans (p2.below (Nat.le_trans (show N≤w2.heap.size by omega) hb10.size)),(Qf hNT _ _).trans (Q6 HX9)⟩
 case rest =>
  obtain ⟨rfl,HT0,HB4,HX4⟩:=hcut
  clear b0 b1 b2 b3 b4 b5 y0 y1 y2 y3 y4 y5 d0 d1 v0 v1 HTx HB3 HX3 HRT
  have HT0:Hid (TxS wc N T (Q3G m.nat)):=by show TxS _ _ _ _; rw [←Q6 HTop]; exact Q6 HT0
  have hN4:N≤wc.heap.size:=Nat.le_of_lt (Qb (Q6 HX4))
  have f0:=Qax m.nat
  have k0:=Qhq m.nat
  have fq:=Q4r f0.1 (by omega) m.q (Q43 o3)
  have kq:=Q8L k0 m.q (Q43 o3)
  obtain ⟨s1,hs1⟩:∃ s,(m.q.map QI.nat).foldl Q0J (Q3G m.nat)=s:=⟨_,rfl⟩
  rw [hs1] at fq kq
  have fa:=Q2a fq.1 fq.2 m.a (Q1L o4)
  have ka:=Q5X kq m.a (Q1L o4)
  obtain ⟨s2,hs2⟩:∃ s,(m.a.map RI.nat).foldl Q08 s1=s:=⟨_,rfl⟩
  rw [hs2] at fa ka
  have fu:=Q2a fa.1 fa.2 m.u (Q1L o5)
  have ku:=Q5X ka m.u (Q1L o5)
  obtain ⟨s3,hs3⟩:∃ s,(m.u.map RI.nat).foldl Q08 s2=s:=⟨_,rfl⟩
  rw [hs3] at fu ku
  have fx:=Q2a fu.1 fu.2 m.x (Q1L o6)
  obtain ⟨s4,hs4⟩:∃ s,(m.x.map RI.nat).foldl Q08 s3=s:=⟨_,rfl⟩
  rw [hs4] at fx
  have hres:Q3m m.nat=s4:=by
   unfold Q3m
   rw [←hs4,←hs3,←hs2,←hs1]
   rfl
  have key8:=fun W (h:TxS W N T s1) (hb:Below N w W) (hs:N≤W.heap.size)=>QeO N T s1 m.a 0 a2 c2 W h fq.1 kq fq.2 o4 (Q6 HR2 W hb) hs
  rw [hs2] at key8
  have key9:=fun W (h:TxS W N T s2) (hb:Below N w W) (hs:N≤W.heap.size)=>QeO N T s2 m.u 1 a3 c3 W h fa.1 ka fa.2 o5 (Q6 HR3 W hb) hs
  rw [hs3] at key9
  have key10:=fun W (h:TxS W N T s3) (hb:Below N w W) (hs:N≤W.heap.size)=>QeO N T s3 m.x 2 a4 c4 W h fu.1 ku fu.2 o6 (Q6 HR4 W hb) hs
  rw [hs4] at key10
  have K8:=Qa key8
  have K9:=Qa key9
  have K10:=Qa key10
  have hz4:=fx.2
  have HAt:=Qa (fun (i:Nat) (hi:i < m.q.length)=>Q9c Q0J QI.nat m.q (Q3G m.nat) i hi)
  have HRest:=Qa (Q6t Q0J QI.nat m.q (Q3G m.nat))
  have HFine:=Qa (fun i=>Q4r f0.1 (by omega) (m.q.take i) (fun x hx=>Q43 o3 x (List.mem_of_mem_take hx)))
  have HKn:=Qa (fun i=>Q8L k0 (m.q.take i) (fun x hx=>Q43 o3 x (List.mem_of_mem_take hx)))
  have HQ:=Qa o3
  have HS1:=Qa hs1
  rw [hres] at HS
  clear key8 key9 key10 fq kq fa ka fu ku fx f0 k0 hs1 hs2 hs3 hs4 hres o3 o4 o5 o6 HR2 HR3 HR4 K2 K3 K4 K5 K6 K7
  obtain ⟨⟨b0,b1,b2,b3,b4,b5⟩,y0,y1,y2,y3,y4,y5⟩:=Qh (Q6 HX4)
  go_wp2_with fail
  have hsN:∀ {W:World},Below N w W→N≤W.heap.size:=fun h=>by have:=h.size; omega
  go_loopw [6] (fun i w'=>∃ j:Nat,i=.int .i64 j∧j≤m.q.length∧Hid (TxS w' N T (((m.q.take j).map QI.nat).foldl Q0J (Q3G m.nat)))∧Hid (TFrame N wc w')) (fun i _=>m.q.length - (intOf i).toNat)
  case atStart=>exact ⟨0,rfl,Nat.zero_le _,HT0,TFrame.refl _ _⟩
  case round =>
   obtain ⟨j,rfl,hj,hW,hG⟩:=hrel
   have hfin:=Q6 HFine j
   have hkn:=Q6 HKn j
   have HXw:=Qa ((Q6 hG).box (Q6 HX4) (by decide) (by decide))
   clear b0 b1 b2 b3 b4 b5 y0 y1 y2 y3 y4 y5
   obtain ⟨⟨b0,b1,b2,b3,b4,b5⟩,y0,y1,y2,y3,y4,y5⟩:=Qh (Q6 HXw)
   have hBw:=(Q6 HB4).trans ((Q6 hG).below hN4)
   have HBw:=Qa hBw
   clear hBw
   by_cases cj:j < m.q.length
   ·by_cases cf:65535 < (((m.q.take j).map QI.nat).foldl Q0J (Q3G m.nat)).1.size
    ·have hend:((m.q.take j).map QI.nat).foldl Q0J (Q3G m.nat)=s1:=by
      rw [←Q6 HS1,Q6 HRest j]
      exact (Q5o Q0J Qas _ cf _).symm
     rw [hend] at hW cf
     clear hend hfin hkn
     obtain ⟨ah,ch,hR,hNT,o1⟩:=Q6 hW
     obtain ⟨d0,d1,v0,v1⟩:=Q0t hR
     clear hR o1
     go_wp2_with fail
     clear d0 d1 v0 v1
     have HTw:Hid (TxS wr N T s1):=hW
     refine (Q6 K8 _ (Q6 HTw) (Q6 HBw) (hsN (Q6 HBw))).mono ?_
     rintro e w6 ⟨rfl,h6,g6⟩
     have HX6:=Qa (g6.box (Q6 HXw) (by decide) (by decide))
     have HB6:=Qa ((Q6 HBw).trans (g6.below (hsN (Q6 HBw))))
     have H6:=Qa h6
     clear h6 g6 b0 b1 b2 b3 b4 b5 y0 y1 y2 y3 y4 y5
     obtain ⟨⟨b0,b1,b2,b3,b4,b5⟩,y0,y1,y2,y3,y4,y5⟩:=Qh (Q6 HX6)
     go_wp2_with fail
     refine (Q6 K9 _ (Q6 H6) (Q6 HB6) (hsN (Q6 HB6))).mono ?_
     rintro e w7 ⟨rfl,h7,g7⟩
     have HX7:=Qa (g7.box (Q6 HX6) (by decide) (by decide))
     have HB7:=Qa ((Q6 HB6).trans (g7.below (hsN (Q6 HB6))))
     have H7:=Qa h7
     clear h7 g7 b0 b1 b2 b3 b4 b5 y0 y1 y2 y3 y4 y5
     obtain ⟨⟨b0,b1,b2,b3,b4,b5⟩,y0,y1,y2,y3,y4,y5⟩:=Qh (Q6 HX7)
     go_wp2_with fail
     refine (Q6 K10 _ (Q6 H7) (Q6 HB7) (hsN (Q6 HB7))).mono ?_
     rintro e w8 ⟨rfl,h8,g8⟩
     have HB8:=Qa ((Q6 HB7).trans (g8.below (hsN (Q6 HB7))))
     have H8:=Qa h8
     clear h8 g8 b0 b1 b2 b3 b4 b5 y0 y1 y2 y3 y4 y5
     obtain ⟨B4,K4⟩:=s4
     obtain ⟨ah4,ch4,hR4,_,_⟩:=Q6 H8
     obtain ⟨d0,d1,v0,v1⟩:=Q0t hR4
     clear hR4
     simp only at *
     by_cases cz:65535 < B4.size
     ·go_wp2_with fail
      go_ret2
      exact ⟨⟨_,_,rfl,(Q6 HS _ _).2 (.inr (.inl ⟨Q6 HOK,cz,rfl,rfl⟩))⟩,Q6 HB8⟩
     ·go_wp2_with fail
      go_ret2
      exact ⟨⟨_,_,rfl,(Q6 HS _ _).2 (.inr (.inr ⟨Q6 HOK,cz,rfl,rfl⟩))⟩,Q6 HB8⟩
    ·have hnx:=Q6 HAt j cj
     have hq:=(Q6 HQ).2 j cj
     obtain ⟨b,o,rfl,hb,x0,x1,x2⟩:=Q6T (Q6 HR1 _ (Q6 HBw)) j cj
     generalize ((m.q.take j).map QI.nat).foldl Q0J (Q3G m.nat)=s at *
     have hst:Q0J s m.q[j].nat=Qb5 s m.q[j].nat:=by unfold Q0J; rw [if_neg cf]
     rw [hst] at hnx
     obtain ⟨n1,n2,n3,n4⟩:=Q6C hq
     obtain ⟨_,y2',y3'⟩:=id hq
     unfold Q1J at y2' y3'
     obtain ⟨sa,hsa⟩:∃ s',Q30 s m.q[j].nat.name=s':=⟨_,rfl⟩
     have f1:=Q3T hfin.1 m.q[j].nat.name
     rw [hsa] at f1
     have hs5:Qb5 s m.q[j].nat=(sa.1++wd m.q[j].nat.ty++wd m.q[j].nat.cl,sa.2):=by rw [←hsa]; rfl
     rw [hs5] at hnx
     have key1:=fun W (h:TxS W N T s)=>QdL N T s m.q[j].nat.name W h hfin.1 hkn (by omega) n4
     rw [hsa] at key1
     have key2:=fun w=>Q4t m.q[j].ty m.q[j].nat.ty w (by show m.q[j].ty=((m.q[j].ty.toNat:Nat):Int); omega) (by omega)
     have key3:=fun w=>Q4t m.q[j].cl m.q[j].nat.cl w (by show m.q[j].cl=((m.q[j].cl.toNat:Nat):Int); omega) (by omega)
     have zz1:=Q00 m.q[j].nat.ty
     have zz2:=Q00 m.q[j].nat.cl
     have hBa:sa.1.size≤70000:=by omega
     have e7:m.q[j].nat.name=m.q[j].name:=rfl
     rw [e7] at key1
     have K1:=Qa key1
     have K2:=Qa key2
     have K3:=Qa key3
     have HNx:=Qa hnx
     clear key1 key2 key3 hnx hst hsa hs5 f1 hfin hkn n1 n2 n3 n4 y2' y3' hq e7
     generalize wd m.q[j].nat.ty=q1 at *
     generalize wd m.q[j].nat.cl=q2 at *
     generalize m.q[j].name=nm at *
     generalize m.q[j].ty=ty at *
     generalize m.q[j].cl=kl at *
     obtain ⟨B,K⟩:=s
     obtain ⟨ah,ch,hR,hNT,o1⟩:=Q6 hW
     obtain ⟨d0,d1,v0,v1⟩:=Q0t hR
     clear hR o1
     simp only at *
     have hal:=(Below.refl wr.heap.size wr).alloc (Nat.le_refl _) (.cells #[.string nm,.int .i64 ty,.int .i64 kl] 91)
     have HT0':=Qa ((Q6 hW).below hal)
     have HX0:=Qa (heap_alloc_new wr (.cells #[.string nm,.int .i64 ty,.int .i64 kl] 91))
     have HG0:=Qa ((Q6 hG).trans (TFrame.of_below hal))
     obtain ⟨X,hX⟩:∃ X,wr.heap.size=X:=⟨_,rfl⟩
     clear hal
     go_wp2_with fail
     refine (Q6 K1 _ (Q6 HT0')).mono ?_
     rintro e w1 ⟨rfl,h1,g1⟩
     have HX1:=Qa (g1.box (Q6 HX0) (by decide) (by decide))
     rw [hX] at HX1
     have G1:=Qa ((Q6 HG0).trans g1)
     have H1:=Qa h1
     clear h1 g1 HX0 HT0' HG0 hW hG d0 d1 v0 v1 x0 x1 x2 hX b0 b1 b2 b3 b4 b5 y0 y1 y2 y3 y4 y5 HXw HBw
     obtain ⟨⟨b0,b1,b2⟩,r0,r1,r2⟩:=Q4p (Q6 HX1)
     obtain ⟨B1,KK1⟩:=sa
     obtain ⟨ah1,ch1,hRx,hNT1,o11⟩:=Q6 H1
     obtain ⟨c0,d1,v0,v1⟩:=Q0t hRx
     have HR1':=Qa hRx
     have hlt1:=Qb hRx
     have hltX:=Qb (Q6 HX1)
     clear hRx o11
     simp only at *
     have q12:(B1++q1).size=B1.size+2:=by rw [ByteArray.size_append]; omega
     have g1:¬ (9223372036854775807 < B1.size+2):=by omega
     have g2:¬ (9223372036854775807 < B1.size+2+2):=by omega
     have g3:¬ (9223372036854775807 < B1.size+4):=by omega
     go_wp2_with fail
     refine wp_region_noPanic ?_
     refine Q3E (fun u=>u.cell? ⟨T,0,none⟩=some (.string B1)∧u.cell? ⟨X,1,none⟩=some (.int .i64 ty)∧u.cell? ⟨X,2,none⟩=some (.int .i64 kl)) 15 (by kernel_rfl) ?_
     have hS1:w1.drew.cell? ⟨T,0,none⟩=some (.string B1)∧w1.drew.cell? ⟨X,1,none⟩=some (.int .i64 ty)∧w1.drew.cell? ⟨X,2,none⟩=some (.int .i64 kl):=⟨c0,b1,b2⟩
     refine Qq (i:=0) (v:=?_) rfl rfl (by kernel_rfl) (by kernel_rfl) (by kernel_rfl) (by kernel_rfl) (fun _ _ _ h=>h) (Or.inl ⟨by rfl,?_⟩) hS1 ?_
     rotate_left
     ·intro u hu
      obtain ⟨u0,u1,u2⟩:=hu
      go_simp
      try with_reducible rfl
     try simp only [Act.put]
     refine Qq (i:=1) (v:=?_) rfl rfl (by kernel_rfl) (by kernel_rfl) (by kernel_rfl) (by kernel_rfl) (fun _ _ _ h=>h) (Or.inl ⟨by rfl,?_⟩) hS1 ?_
     rotate_left
     ·intro u hu
      obtain ⟨u0,u1,u2⟩:=hu
      go_simp
      try with_reducible rfl
     try simp only [Act.put]
     refine Qq (i:=2) (v:=?_) rfl rfl (by kernel_rfl) (by kernel_rfl) (by kernel_rfl) (by kernel_rfl) (fun _ _ _ h=>h) (Or.inl ⟨by rfl,?_⟩) hS1 ?_
     rotate_left
     ·intro u hu
      obtain ⟨u0,u1,u2⟩:=hu
      go_simp
      try with_reducible rfl
     try simp only [Act.put]
     refine Qq (i:=3) (v:=?_) rfl rfl (by kernel_rfl) (by kernel_rfl) (by kernel_rfl) (by kernel_rfl) (fun _ _ _ h=>h) (Or.inl ⟨by rfl,?_⟩) hS1 ?_
     rotate_left
     ·intro u hu
      obtain ⟨u0,u1,u2⟩:=hu
      go_simp
      try with_reducible rfl
     try simp only [Act.put]
     refine Qq (i:=4) (v:=?_) rfl rfl (by kernel_rfl) (by kernel_rfl) (by kernel_rfl) (by kernel_rfl) (fun _ _ _ h=>h) (Or.inl ⟨by rfl,?_⟩) hS1 ?_
     rotate_left
     ·intro u hu
      obtain ⟨u0,u1,u2⟩:=hu
      go_simp
      try with_reducible rfl
     try simp only [Act.put]
     refine Qq (i:=5) (v:=?_) rfl rfl (by kernel_rfl) (by kernel_rfl) (by kernel_rfl) (by kernel_rfl) (fun _ _ _ h=>h) (Or.inl ⟨by rfl,?_⟩) hS1 ?_
     rotate_left
     ·intro u hu
      obtain ⟨u0,u1,u2⟩:=hu
      go_simp
      try with_reducible rfl
     try simp only [Act.put]
     refine Qq (i:=6) (v:=?_) rfl rfl (by kernel_rfl) (by kernel_rfl) (by kernel_rfl) (by kernel_rfl) (fun _ _ _ h=>h) (Or.inl ⟨by rfl,?_⟩) hS1 ?_
     rotate_left
     ·intro u hu
      obtain ⟨u0,u1,u2⟩:=hu
      go_simp
      try with_reducible rfl
     try simp only [Act.put]
     refine Qq (i:=9) (v:=?_) rfl rfl (by kernel_rfl) (by kernel_rfl) (by kernel_rfl) (by kernel_rfl) (fun _ _ _ h=>h) (Or.inl ⟨by rfl,?_⟩) hS1 ?_
     rotate_left
     ·intro u hu
      obtain ⟨u0,u1,u2⟩:=hu
      go_simp
      try with_reducible rfl
     try simp only [Act.put]
     refine Qq (i:=10) (v:=?_) rfl rfl (by kernel_rfl) (by kernel_rfl) (by kernel_rfl) (by kernel_rfl) (fun _ _ _ h=>h) (Or.inl ⟨by rfl,?_⟩) hS1 ?_
     rotate_left
     ·intro u hu
      obtain ⟨u0,u1,u2⟩:=hu
      go_simp
      try with_reducible rfl
     try simp only [Act.put]
     refine Q1m (i:=7) rfl (by kernel_rfl) (fun K hK=>?_)
     go_simp
     refine (Q6 K2 _).mono ?_
     rintro e w2 ⟨rfl,hb2⟩
     have hS2:=(⟨(hb2.cell (p:=⟨T,0,none⟩) (Qb (Q6 HR1'))).trans hS1.1,(hb2.cell (p:=⟨X,1,none⟩) (Qb (Q6 HX1))).trans hS1.2.1,(hb2.cell (p:=⟨X,2,none⟩) (Qb (Q6 HX1))).trans hS1.2.2⟩:w2.cell? ⟨T,0,none⟩=some (.string B1)∧w2.cell? ⟨X,1,none⟩=some (.int .i64 ty)∧w2.cell? ⟨X,2,none⟩=some (.int .i64 kl))
     refine hK _ _ (fun _=>hS2) ?_
     clear hK K
     try simp only [Act.put]
     have HX2:=Qa ((hb2.block X (Qb (Q6 HX1))).trans (Q6 HX1))
     have HR2:=Qa ((hb2.block T (Qb (Q6 HR1'))).trans (Q6 HR1'))
     refine Qq (i:=8) (v:=?_) rfl rfl (by kernel_rfl) (by kernel_rfl) (by kernel_rfl) (by kernel_rfl) (fun _ _ _ h=>h) (Or.inl ⟨by rfl,?_⟩) hS2 ?_
     rotate_left
     ·intro u hu
      obtain ⟨u0,u1,u2⟩:=hu
      go_simp
      try with_reducible rfl
     try simp only [Act.put]
     refine Q1m (i:=11) rfl (by kernel_rfl) (fun K hK=>?_)
     go_simp
     refine (Q6 K3 _).mono ?_
     rintro e w3 ⟨rfl,hb3⟩
     have hS3:=(⟨(hb3.cell (p:=⟨T,0,none⟩) (Qb (Q6 HR2))).trans hS2.1,(hb3.cell (p:=⟨X,1,none⟩) (Qb (Q6 HX2))).trans hS2.2.1,(hb3.cell (p:=⟨X,2,none⟩) (Qb (Q6 HX2))).trans hS2.2.2⟩:w3.cell? ⟨T,0,none⟩=some (.string B1)∧w3.cell? ⟨X,1,none⟩=some (.int .i64 ty)∧w3.cell? ⟨X,2,none⟩=some (.int .i64 kl))
     refine hK _ _ (fun _=>hS3) ?_
     clear hK K
     try simp only [Act.put]
     have HX3:=Qa ((hb3.block X (Qb (Q6 HX2))).trans (Q6 HX2))
     have HR3:=Qa ((hb3.block T (Qb (Q6 HR2))).trans (Q6 HR2))
     refine Qq (i:=12) (v:=?_) rfl rfl (by kernel_rfl) (by kernel_rfl) (by kernel_rfl) (by kernel_rfl) (fun _ _ _ h=>h) (Or.inl ⟨by rfl,?_⟩) hS3 ?_
     rotate_left
     ·intro u hu
      obtain ⟨u0,u1,u2⟩:=hu
      go_simp
      try with_reducible rfl
     try simp only [Act.put]
     refine Q1m (i:=13) rfl (by kernel_rfl) (fun K hK=>?_)
     go_simp
     refine hK _ _ (fun _=>hS3) ?_
     clear hK K
     try simp only [Act.put]
     refine Q1m (i:=14) rfl (by kernel_rfl) (fun K hK=>?_)
     go_simp
     refine hK _ _ (fun _=>hS3) ?_
     clear hK K
     try simp only [Act.put]
     obtain ⟨d0,d1,u0,u1⟩:=Q0t (Q6 HR3)
     refine Q1m (i:=15) rfl (by kernel_rfl) (fun K hK=>?_)
     go_simp
     refine hK _ _ (fun h=>absurd rfl h) (Q6p (by kernel_rfl) ?_ _)
     clear hK K
     refine NoPanic.normal ?_
     have hb5:=(Q0x hb2).trans (hb3.mono hb2.size)
     obtain ⟨p1,p2⟩:=Q8A ((Q6 H1).below hb5) (B1++q1++q2)
     have P1:=Qa p1
     have P2:=Qa (((Q6 G1).trans (TFrame.of_below hb5)).trans p2)
     clear p1 p2 hS1 hS2 hS3 c0 d0 d1 u0 u1 v0 v1 b0 b1 b2 r0 r1 r2
     go_wp2_with fail
     go_roundw
     case rel=>exact ⟨j+1,by go_num,by omega,by rw [Q6 HNx]; exact P1,P2⟩
     case measure=>simp [intOf]; omega
   ·have hjn:m.q.take j=m.q:=List.take_of_length_le (by omega)
    rw [hjn,Q6 HS1] at hW
    clear hfin hjn hkn
    go_wp2_with fail
    have HTw:Hid (TxS wr N T s1):=hW
    refine (Q6 K8 _ (Q6 HTw) (Q6 HBw) (hsN (Q6 HBw))).mono ?_
    rintro e w6 ⟨rfl,h6,g6⟩
    have HX6:=Qa (g6.box (Q6 HXw) (by decide) (by decide))
    have HB6:=Qa ((Q6 HBw).trans (g6.below (hsN (Q6 HBw))))
    have H6:=Qa h6
    clear h6 g6 b0 b1 b2 b3 b4 b5 y0 y1 y2 y3 y4 y5
    obtain ⟨⟨b0,b1,b2,b3,b4,b5⟩,y0,y1,y2,y3,y4,y5⟩:=Qh (Q6 HX6)
    go_wp2_with fail
    refine (Q6 K9 _ (Q6 H6) (Q6 HB6) (hsN (Q6 HB6))).mono ?_
    rintro e w7 ⟨rfl,h7,g7⟩
    have HX7:=Qa (g7.box (Q6 HX6) (by decide) (by decide))
    have HB7:=Qa ((Q6 HB6).trans (g7.below (hsN (Q6 HB6))))
    have H7:=Qa h7
    clear h7 g7 b0 b1 b2 b3 b4 b5 y0 y1 y2 y3 y4 y5
    obtain ⟨⟨b0,b1,b2,b3,b4,b5⟩,y0,y1,y2,y3,y4,y5⟩:=Qh (Q6 HX7)
    go_wp2_with fail
    refine (Q6 K10 _ (Q6 H7) (Q6 HB7) (hsN (Q6 HB7))).mono ?_
    rintro e w8 ⟨rfl,h8,g8⟩
    have HB8:=Qa ((Q6 HB7).trans (g8.below (hsN (Q6 HB7))))
    have H8:=Qa h8
    clear h8 g8 b0 b1 b2 b3 b4 b5 y0 y1 y2 y3 y4 y5
    obtain ⟨B4,K4⟩:=s4
    obtain ⟨ah4,ch4,hR4,_,_⟩:=Q6 H8
    obtain ⟨d0,d1,v0,v1⟩:=Q0t hR4
    clear hR4
    simp only at *
    by_cases cz:65535 < B4.size
    ·go_wp2_with fail
     go_ret2
     exact ⟨⟨_,_,rfl,(Q6 HS _ _).2 (.inr (.inl ⟨Q6 HOK,cz,rfl,rfl⟩))⟩,Q6 HB8⟩
    ·go_wp2_with fail
     go_ret2
     exact ⟨⟨_,_,rfl,(Q6 HS _ _).2 (.inr (.inr ⟨Q6 HOK,cz,rfl,rfl⟩))⟩,Q6 HB8⟩
end Go.Proofs.YtdhobdmhnocbgabGreatDoor
