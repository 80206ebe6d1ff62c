import Derived.Test.YtdhobdmhnocbgabGreatDoorSOnkeep
import Derived.Test.YtdhobdmhnocbgabGreatDoorSRowW
import Derived.Deep.LoopGhost
import Derived.Deep.DeepCutAuto
import Derived.Deep.RegionHeld3
import Derived.Test.YtdhobdmhnocbgabGreatDoorSRefD
namespace Go.Proofs.YtdhobdmhnocbgabGreatDoor
open Go.RowKit Zr
theorem Tryz.info5:(Tryz.prog.info? 5).map (fun i=>(i.zero,i.size,i.bytes))=some (some (.int .u8 0),1,1):=by kernel_rfl
theorem Tryz.info231:(Tryz.prog.info? 231).map (fun i=>(i.zero,i.size,i.bytes))=some (some (.agg #[.string ⟨#[]⟩,.int .i64 0]),2,24):=by kernel_rfl
def Q4C (K:List (ByteArray × Nat)):List Value:=K.flatMap fun p=>[.string p.1,.int .i64 p.2]
theorem Qb3 (K l:List (ByteArray × Nat)):Q4C (K++l)=Q4C K++Q4C l:=by simp [Q4C]
theorem Q8Y (p:ByteArray × Nat) (l:List (ByteArray × Nat)) (k:Nat):(Q4C (p :: l))[k+2]? = (Q4C l)[k]?:=by simp [Q4C]
theorem Qho (l:List (ByteArray × Nat)):∀ (i:Nat) (h:i < l.length),(Q4C l)[i * 2]? = some (.string l[i].1)∧(Q4C l)[i * 2+1]? = some (.int .i64 l[i].2):=by
 induction l with
 | nil=>intro i h; simp at h
 | cons p l ih =>
  intro i h
  cases i with
  | zero=>exact ⟨rfl,rfl⟩
  | succ i =>
   have e0:(i+1) * 2=i * 2+2:=by omega
   have e1:(i+1) * 2+1=i * 2+1+2:=by omega
   rw [e1,e0,Q8Y,Q8Y]
   exact ih i (by simpa using h)
def Wr (w:World) (N R:Nat) (B:ByteArray) (K:List (ByteArray × Nat)):Prop :=
 ∃ vb ab cb vk ak ck,w.heap[R]? = some (.cells #[vb,vk] 131 (0,0))∧N≤R∧vb=.slice ab B.size cb∧vk=.slice ak K.length ck∧w.ownsRow N 5 1 vb B.size (byteCells B)∧w.ownsRow N 231 2 vk K.length (Q4C K)
structure WFrame (N:Nat) (w w':World):Prop where
 os:w'.os=w.os
 tape:w'.tape=w.tape
 output:w'.output=w.output
 size:w.heap.size≤w'.heap.size
 low:∀ k,k < N→k < w.heap.size→w'.heap[k]? = w.heap[k]?
 kind:∀ (k:Nat) (cs:Array Value) (t:TypeId) (fr:Nat × Nat),w.heap[k]? = some (Obj.cells cs t fr)→t≠5→t≠231→t≠131→w'.heap[k]? = some (Obj.cells cs t fr)
theorem WFrame.refl (N:Nat) (w:World):WFrame N w w:=⟨rfl,rfl,rfl,Nat.le_refl _,fun _ _ _=>rfl,fun _ _ _ _ h _ _ _=>h⟩
theorem WFrame.trans {N:Nat} {a b c:World} (h:WFrame N a b) (k:WFrame N b c):WFrame N a c :=
 ⟨k.os.trans h.os,k.tape.trans h.tape,k.output.trans h.output,Nat.le_trans h.size k.size,fun i h1 h2=>(k.low i h1 (Nat.lt_of_lt_of_le h2 h.size)).trans (h.low i h1 h2),fun i cs t fr h1 h2 h3 h4=>k.kind i cs t fr (h.kind i cs t fr h1 h2 h3 h4) h2 h3 h4⟩
theorem WFrame.below {N:Nat} {w w':World} (h:WFrame N w w') (hN:N≤w.heap.size):Below N w w':=⟨h.os,h.tape,h.output,h.size,fun k hk=>h.low k hk (Nat.lt_of_lt_of_le hk hN)⟩
theorem WFrame.of_below {N:Nat} {w w':World} (h:Below w.heap.size w w'):WFrame N w w' :=
 ⟨h.os,h.tape,h.output,h.size,fun k _ hk=>h.block k hk,fun k _ _ _ hk _ _ _=>(h.block k (Qb hk)).trans hk⟩
theorem WFrame.of_grown {N g:Nat} {w w':World} (h:w.grownBy w' (some g)) (hg:N≤g) {cs:Array Value} {t:TypeId} {fr:Nat × Nat} (hk:w.heap[g]? = some (.cells cs t fr)) (ht:t=5∨t=231∨t=131):WFrame N w w' :=
 ⟨h.os,h.tape,h.output,h.size,fun k h1 h2=>h.block k h2 (fun e=>by cases e; omega),fun k cs' t' fr' h1 h2 h3 h4=>(h.block k (Qb h1) (fun e=>by
  cases e
  rw [hk] at h1
  cases h1
  rcases ht with h | h | h
  ·exact h2 h
  ·exact h3 h
  ·exact h4 h)).trans h1⟩
theorem WFrame.of_none {N:Nat} {w w':World} (h:w.grownBy w' none):WFrame N w w' :=
 ⟨h.os,h.tape,h.output,h.size,fun k h1 h2=>h.block k h2 (by simp),fun k _ _ _ h1 _ _ _=>(h.block k (Qb h1) (by simp)).trans h1⟩
theorem WFrame.of_append {N:Nat} {w w':World} {e:TypeId} {size:Nat} {v:Value} {n:Nat} {xs:List Value} (hown:w.ownsRow N e size v n xs) (hg:w.grownBy w' v.ownBlock) (ht:e=5∨e=231∨e=131):WFrame N w w':=by
 rcases hown.2 with ⟨rfl,_⟩ | ⟨g,cap,cur,rfl,hbg,hgg,_⟩
 ·exact WFrame.of_none hg
 ·exact WFrame.of_grown hg hbg hgg ht
theorem Q2E {w w':World} {N N':Nat} {e e':TypeId} {size size':Nat} {v v':Value} {n n':Nat} {xs xs':List Value} (hown:w.ownsRow N e size v n xs) (hg:w.grownBy w' v.ownBlock) (h:w.ownsRow N' e' size' v' n' xs') (hne:e≠e'):w'.ownsRow N' e' size' v' n' xs':=by
 refine h.kept hg ?_
 rcases hown.2 with ⟨rfl,_⟩ | ⟨g,cap,cur,rfl,hbg,hgg,_⟩
 ·rcases h.2 with ⟨rfl,_⟩ | ⟨g',cap',cur',rfl,hbg',hgg',_⟩
  ·exact .inl rfl
  ·exact .inr (by simp [Value.ownBlock])
 ·rcases h.2 with ⟨rfl,_⟩ | ⟨g',cap',cur',rfl,hbg',hgg',_⟩
  ·exact .inl rfl
  ·refine .inr (fun he=>?_)
   simp only [Value.ownBlock,Option.some.injEq] at he
   subst he
   rw [hgg] at hgg'
   cases hgg'
   exact hne rfl
theorem Q02 {w w':World} {N R:Nat} {e:TypeId} {size:Nat} {v:Value} {n:Nat} {xs:List Value} (hown:w.ownsRow N e size v n xs) (hg:w.grownBy w' v.ownBlock) {cs:Array Value} {t:TypeId} {fr:Nat × Nat} (hR:w.heap[R]? = some (.cells cs t fr)) (hne:e≠t):w'.heap[R]? = some (.cells cs t fr):=by
 rw [hg.block R (Qb hR) (fun he=>?_),hR]
 rcases hown.2 with ⟨rfl,_⟩ | ⟨g,cap,cur,rfl,hbg,hgg,_⟩
 ·simp [Value.ownBlock] at he
 ·simp only [Value.ownBlock,Option.some.injEq] at he
  subst he
  rw [hgg] at hR
  cases hR
  exact hne rfl
theorem Qi {w:World} {N R:Nat} {e:TypeId} {size:Nat} {v:Value} {n:Nat} {xs:List Value} (hown:w.ownsRow N e size v n xs) {cs:Array Value} {t:TypeId} {fr:Nat × Nat} (hR:w.heap[R]? = some (.cells cs t fr)) (hne:e≠t) (j:Nat) (u:Value):(w.setCell ⟨R,j,none⟩ u).ownsRow N e size v n xs:=by
 refine hown.kept (Ql w R j u) ?_
 rcases hown.2 with ⟨rfl,_⟩ | ⟨g,cap,cur,rfl,hbg,hgg,_⟩
 ·exact .inl rfl
 ·refine .inr (fun he=>?_)
  simp only [Value.ownBlock,Option.some.injEq] at he
  subst he
  rw [hgg] at hR
  cases hR
  exact hne rfl
theorem Q3F {w:World} {R:Nat} {vb vk:Value} (h:w.heap[R]? = some (.cells #[vb,vk] 131 (0,0))) :
  w.cell? ⟨R,0,none⟩=some vb∧w.cell? ⟨R,1,none⟩=some vk∧w.frozen? ⟨R,0,none⟩=false∧w.frozen? ⟨R,1,none⟩=false:=by
 refine ⟨?_,?_,Qd h _,Qd h _⟩ <;> (rw [Qc h]; rfl)
theorem Wr.lt {w:World} {N R:Nat} {B:ByteArray} {K:List (ByteArray × Nat)} (h:Wr w N R B K):R < w.heap.size:=by
 obtain ⟨vb,ab,cb,vk,ak,ck,hR,_⟩:=h
 exact Qb hR
theorem Wr.below {w w':World} {N R:Nat} {B:ByteArray} {K:List (ByteArray × Nat)} (h:Wr w N R B K) (hb:Below w.heap.size w w'):Wr w' N R B K:=by
 obtain ⟨vb,ab,cb,vk,ak,ck,hR,hN,e1,e2,o1,o2⟩:=h
 have hg:w.grownBy w' none:=Q1l hb
 refine ⟨vb,ab,cb,vk,ak,ck,(hb.block R (Qb hR)).trans hR,hN,e1,e2,o1.kept hg ?_,o2.kept hg ?_⟩
 ·cases h:vb.ownBlock with
  | none=>exact .inl rfl
  | some g=>exact .inr (by simp)
 ·cases h:vk.ownBlock with
  | none=>exact .inl rfl
  | some g=>exact .inr (by simp)
theorem Q1R (a b:ByteArray):byteCells (a++b)=byteCells a++byteCells b:=by
 simp [byteCells,ByteArray.data_append]
set_option maxHeartbeats 400000 in
theorem Qlm (N R:Nat) (B:ByteArray) (K:List (ByteArray × Nat)) (w:World) (h:Wr w N R B K) (hB:B.size≤400000) :
  Calls Tryz.prog 83 #[.pointer (some ⟨R,0,none⟩)] w fun e w'=>e=.returned (.bool (decide (65535 < B.size)))∧w'=w:=by
 obtain ⟨vb,ab,cb,vk,ak,ck,hR,hN,rfl,rfl,o1,o2⟩:=h
 obtain ⟨c0,c1,z0,z1⟩:=Q3F hR
 clear hR o1 o2
 go_enter Tryz.func83,Tryz.ntmps83
 go_wp2_with fail
 go_ret
 exact ⟨Q0B (by rw [Bool.eq_iff_iff]; simp; omega),rfl⟩
set_option maxRecDepth 100000 in
set_option maxHeartbeats 400000 in
theorem Q9a (N R:Nat) (B:ByteArray) (K:List (ByteArray × Nat)) (s:ByteArray) (w:World) (h:Wr w N R B K) (hB:B.size≤400000) (hs:s.size≤400000) :
  Calls Tryz.prog 155 #[.pointer (some ⟨R,0,none⟩),.string s] w fun e w'=>e=.returned (.tuple #[])∧Wr w' N R (B++s) K∧WFrame N w w':=by
 obtain ⟨vb,ab,cb,vk,ak,ck,hR,hN,rfl,rfl,o1,o2⟩:=h
 obtain ⟨c0,c1,z0,z1⟩:=Q3F hR
 have HR:=Qa hR
 have hlt:=Qb hR
 obtain ⟨i0,hi,hz0,hz1,hz2⟩:=info_parts Tryz.info5
 have Hi:=Qa hi
 have Hz0:=Qa hz0
 have Hz1:=Qa hz1
 have Hz2:=Qa hz2
 have O1:=Qa o1
 have O2:=Qa o2
 clear hi hz0 hz1 hz2 hR o1 o2
 go_enter Tryz.func155,Tryz.ntmps155
 go_wp2_with (at_builtin; refine Qe _ rfl _ _ 128 9 rfl N 5 i0 (.int .u8 0) 1 1 Tryz.underlying128 (Q6 Hi) (Q6 Hz0) (Q6 Hz1) (Q6 Hz2) rfl (.slice ab B.size cb) B.size (byteCells B) (by rfl) (Q6 O1) (.string s) s.size (byteCells s) (by rfl) (Src.ofString _ Tryz.underlying9 s) (by unfold maxLen; omega) (by omega) (by omega) ?_; intro a1 e1 w1 hown1 hgrow1 hat1; have hR1:=Q02 (Q6 O1) hgrow1 (Q6 HR) (by decide); have hO2:=Q2E (Q6 O1) hgrow1 (Q6 O2) (by decide); have hfr:=WFrame.of_append (Q6 O1) hgrow1 (.inl rfl); obtain ⟨d0,d1,y0,y1⟩:=Q3F hR1; have HR1:=Qa hR1; have HO2:=Qa hO2; have HF:=Qa hfr; have HO1:=Qa hown1; have HG:=Qa hgrow1; clear c0 c1 z0 z1 hR1 hO2 hfr hown1 hgrow1 hat1)
 go_end0
 refine ⟨rfl,?_,(Q6 HF).trans (WFrame.of_grown (Ql _ R 0 _) hN (Q6 HR1) (.inr (.inr rfl)))⟩
 refine ⟨_,a1,e1,_,ak,ck,(Qo (Q6 HR1) 0 _).trans rfl,hN,by rw [ByteArray.size_append],rfl,?_,?_⟩
 ·rw [Q1R,ByteArray.size_append]
  exact Qi (Q6 HO1) (Q6 HR1) (by decide) 0 _
 ·exact Qi (Q6 HO2) (Q6 HR1) (by decide) 0 _
def Q49 (o:Option Nat):Int:=match o with
 | some h=>h
 | none=>-1
set_option maxHeartbeats 1000000 in
theorem Qia (N R:Nat) (B:ByteArray) (K:List (ByteArray × Nat)) (s:ByteArray) (w:World) (h:Wr w N R B K) (hK:K.length≤400000) :
  Calls Tryz.prog 192 #[.pointer (some ⟨R,0,none⟩),.string s] w fun e w'=>e=.returned (.int .i64 (Q49 (Q2c K s)))∧w'=w:=by
 obtain ⟨vb,ab,cb,vk,ak,ck,hR,hN,rfl,rfl,o1,o2⟩:=h
 obtain ⟨c0,c1,z0,z1⟩:=Q3F hR
 have O2:=Qa o2
 clear hR o1 o2
 obtain ⟨v,hv⟩:∃ v,Q49 (Q2c K s)=v:=⟨_,rfl⟩
 rw [hv]
 have HV:=Qa hv
 clear hv
 go_enter Tryz.func192,Tryz.ntmps192
 go_wp2_with fail
 go_loop [5] (fun i=>∃ j:Nat,j≤K.length∧i=.int .i64 j∧Hid (∀ k (hk:k < K.length),k < j→K[k].1≠s)) (fun i=>K.length - (intOf i).toNat)
 case atStart=>exact ⟨0,Nat.zero_le _,rfl,fun k _ hk=>by omega⟩
 case round =>
  obtain ⟨j,hj,rfl,hno⟩:=hrel
  by_cases cj:j < K.length
  ·obtain ⟨g,rfl,_,_,hcap⟩:=Q23 (Q6 O2) (by omega)
   obtain ⟨q0,q1⟩:=Qho K j cj
   have x0:=Q0v (Q6 O2) _ _ q0
   have x1:=Q0v (Q6 O2) _ _ q1
   clear q0 q1
   by_cases ce:K[j].1=s
   ·have hV:=Q6 HV
    rw [QcN K s j cj (fun k hk=>Q6 hno k (by omega) hk) ce] at hV
    have hV':(K[j].2:Int)=v:=hV
    have he:(K[j].1.toList == s.toList)=true:=by rw [Q1C]; simp [ce]
    have HV2:=Qa hV'
    clear hV hV' ce
    generalize K[j].1=kn at *
    generalize K[j].2=kh at *
    go_wp2_with fail
    go_ret
    exact ⟨by rw [Q6 HV2]; rfl,rfl⟩
   ·have he:(K[j].1.toList == s.toList)=false:=by rw [Q1C]; simp [ce]
    have hno2:Hid (∀ k (hk:k < K.length),k < j+1→K[k].1≠s):=fun k hk hkj=>by
     by_cases hkk:k=j
     ·subst hkk; exact ce
     ·exact Q6 hno k hk (by omega)
    clear ce
    generalize K[j].1=kn at *
    generalize K[j].2=kh at *
    go_wp2_with fail
    go_round
    case rel=>exact ⟨j+1,by omega,by go_num,hno2⟩
    case measure=>simp [intOf]; omega
  ·have hV:=Q6 HV
   rw [Q72 K s (fun k hk=>Q6 hno k hk (by omega))] at hV
   have HV2:Hid ((-1:Int)=v):=hV
   clear hV
   go_wp2_with fail
   go_ret
   exact ⟨by rw [←Q6 HV2]; rfl,rfl⟩
theorem QbY (w:World) (x0 x1:Value) (t:TypeId) (B:Nat) (hB:B=w.heap.size):∀ j u,[x0,x1][j]? = some u→(w.alloc (.cells #[x0,x1] t)).cell? ((⟨B,0,none⟩:Addr).add j)=some u:=by
 subst hB
 exact World.news_of_block (cs:=#[x0,x1]) (heap_alloc_new w _)
set_option maxRecDepth 100000 in
set_option maxHeartbeats 1000000 in
theorem Qkg (N R:Nat) (B:ByteArray) (K:List (ByteArray × Nat)) (s:ByteArray) (p:Nat) (w:World) (h:Wr w N R B K) (hK:K.length≤400000) (hp:p≤4000000) :
  Calls Tryz.prog 193 #[.pointer (some ⟨R,0,none⟩),.string s,.int .i64 p] w fun e w'=>e=.returned (.tuple #[])∧Wr w' N R B (K++Q2b s p)∧WFrame N w w':=by
 by_cases cp:p≤16383
 ·have hl:Q2b s p=[(s,p)]:=by unfold Q2b; rw [if_pos cp]
  rw [hl]
  clear hl
  obtain ⟨vb,ab,cb,vk,ak,ck,hR,hN,rfl,rfl,o1,o2⟩:=h
  obtain ⟨c0,c1,z0,z1⟩:=Q3F hR
  have HR:=Qa hR
  have hlt:=Qb hR
  obtain ⟨i0,hi,hz0,hz1,hz2⟩:=info_parts Tryz.info231
  have Hi:=Qa hi
  have Hz0:=Qa hz0
  have Hz1:=Qa hz1
  have Hz2:=Qa hz2
  have O1:=Qa o1
  have O2:=Qa o2
  clear hi hz0 hz1 hz2 hR o1 o2
  go_enter Tryz.func193,Tryz.ntmps193
  go_wp2_with (at_builtin; refine Qe _ rfl _ _ 129 129 rfl N 231 i0 (.agg #[.string ⟨#[]⟩,.int .i64 0]) 2 24 Tryz.underlying129 (Q6 Hi) (Q6 Hz0) (Q6 Hz1) (Q6 Hz2) rfl (.slice ak K.length ck) K.length (Q4C K) (by rfl) ((Q6 O2).alloc _) (.slice (some ⟨w.heap.size,0,none⟩) 1 1) 1 [.string s,.int .i64 p] (by rfl) (Src.ofSlice _ Tryz.underlying129 ⟨w.heap.size,0,none⟩ 1 1 _ rfl (QbY _ _ _ _ _ rfl) (fun x hx=>by simp at hx; rcases hx with rfl | rfl <;> rfl)) (by unfold maxLen; omega) (by omega) (by simp; omega) ?_; intro a1 e1 w1 hown1 hgrow1 hat1; have hRa:=(heap_alloc_old w (.cells #[.string s,.int .i64 p] 231) hlt).trans (Q6 HR); have hR1:=Q02 ((Q6 O2).alloc _) hgrow1 hRa (by decide); have hO1:=Q2E ((Q6 O2).alloc _) hgrow1 ((Q6 O1).alloc _) (by decide); have hfr:=WFrame.of_append ((Q6 O2).alloc _) hgrow1 (.inr (.inl rfl)); obtain ⟨d0,d1,y0,y1⟩:=Q3F hR1; have HR1:=Qa hR1; have HO1:=Qa hO1; have HF:=Qa hfr; have HO2:=Qa hown1; clear c0 c1 z0 z1 hR1 hO1 hfr hown1 hgrow1 hat1 hRa)
  go_end0
  refine ⟨rfl,?_,((WFrame.of_below ((Below.refl _ _).alloc (Nat.le_refl _) _)).trans (Q6 HF)).trans (WFrame.of_grown (Ql _ R 1 _) hN (Q6 HR1) (.inr (.inr rfl)))⟩
  refine ⟨_,ab,cb,_,a1,e1,(Qo (Q6 HR1) 1 _).trans rfl,hN,rfl,by simp,?_,?_⟩
  ·exact Qi (Q6 HO1) (Q6 HR1) (by decide) 1 _
  ·rw [Qb3,List.length_append]
   exact Qi (Q6 HO2) (Q6 HR1) (by decide) 1 _
 ·have hl:Q2b s p=[]:=by unfold Q2b; rw [if_neg cp]
  rw [hl,List.append_nil]
  have H:=Qa h
  clear h hl
  go_enter Tryz.func193,Tryz.ntmps193
  go_wp2_with fail
  go_end0
  exact ⟨rfl,Q6 H,WFrame.refl _ _⟩
set_option maxHeartbeats 400000 in
theorem Qm6 (N R:Nat) (B:ByteArray) (K:List (ByteArray × Nat)) (n:Nat) (w:World) (h:Wr w N R B K) (hB:B.size≤399998) (hn:n < 65536) :
  Calls Tryz.prog 121 #[.pointer (some ⟨R,0,none⟩),.int .i64 n] w fun e w'=>e=.returned (.tuple #[])∧Wr w' N R (B++wd n) K∧WFrame N w w':=by
 have H:=Qa h
 clear h
 go_enter Tryz.func121,Tryz.ntmps121
 go_wp2_with fail
 refine (Q86 n _ hn).mono ?_
 rintro e w1 ⟨rfl,hb1⟩
 have hz:=Q00 n
 have Hz:=Qa hz
 clear hz
 obtain ⟨s,hs⟩:∃ s,wd n=s:=⟨_,rfl⟩
 rw [hs] at Hz ⊢
 have Hs:=Qa hs
 clear hs
 go_wp2_with fail
 refine (Q9a N R B K s _ ((Q6 H).below hb1) (by omega) (by rw [Q6 Hz]; omega)).mono ?_
 rintro e w2 ⟨rfl,h2,h3⟩
 have H2:=Qa h2
 have H3:=Qa h3
 clear h2 h3
 go_wp2_with fail
 go_end0
 exact ⟨rfl,by rw [Q6 Hs]; exact Q6 H2,(WFrame.of_below hb1).trans (Q6 H3)⟩
theorem QkM (K:List (ByteArray × Nat)) (s:ByteArray) (p:Nat):∀ f k,(shF K s p f k).2.length≤(shF K s p f k).1.size∧(shF K s p f k).1.size≤s.size - k+1:=by
 intro f
 induction f with
 | zero=>intro k; exact ⟨Nat.le_refl _,Nat.zero_le _⟩
 | succ f ih =>
  intro k
  rw [shF]
  by_cases c:s.size < k+2
  ·rw [if_pos c]
   exact ⟨Nat.zero_le _,by rw [ByteArray.size_extract]; omega⟩
  ·rw [if_neg c]
   cases Q2c K (s.extract k s.size) with
   | some tgt=>exact ⟨Nat.zero_le _,by show (wd _).size≤_; rw [Q00]; omega⟩
   | none =>
    have:=ih (k+1+bt s k)
    have hl:(Q2b (s.extract k s.size) (p+k)).length≤1:=by unfold Q2b; split <;> simp
    have he:(s.extract k (k+1+bt s k)).size=min (k+1+bt s k) s.size - k:=by rw [ByteArray.size_extract]
    simp only [List.length_append,ByteArray.size_append,he]
    have hb:=Q20 s k
    omega
theorem Q58 (K:List (ByteArray × Nat)) (s:ByteArray) (p:Nat):(Q1p K s p).2.length≤(Q1p K s p).1.size∧(Q1p K s p).1.size≤s.size+1:=QkM K s p _ 0
def KOk (K:List (ByteArray × Nat)):Prop:=∀ q,q∈K→q.2≤16383
theorem KOk.nil:KOk []:=fun q h=>by simp at h
theorem QgI (s:ByteArray) (p:Nat):KOk (Q2b s p):=fun q h=>by
 unfold Q2b at h
 split at h
 ·simp at h; subst h; assumption
 ·simp at h
theorem KOk.append {K l:List (ByteArray × Nat)} (h:KOk K) (h2:KOk l):KOk (K++l):=fun q hq=>by
 rcases List.mem_append.1 hq with h1 | h1
 ·exact h q h1
 ·exact h2 q h1
theorem QlT (K:List (ByteArray × Nat)) (s:ByteArray) (p:Nat):∀ f k,KOk (shF K s p f k).2:=by
 intro f
 induction f with
 | zero=>intro k; exact KOk.nil
 | succ f ih =>
  intro k
  rw [shF]
  split
  ·exact KOk.nil
  ·split
   ·exact KOk.nil
   ·exact (QgI _ _).append (ih _)
theorem QdM (K:List (ByteArray × Nat)) (s:ByteArray) (p:Nat):KOk (Q1p K s p).2:=QlT K s p _ 0
theorem QfZ (K:List (ByteArray × Nat)) (s:ByteArray) (p f k:Nat) (hf:s.size < k+f) (hk:k≤s.size) (c:s.size < k+2):shF K s p f k=(s.extract k s.size,[]):=by
 cases f with
 | zero=>omega
 | succ f=>rw [shF,if_pos c]
theorem Qam (K:List (ByteArray × Nat)) (s:ByteArray) (p f k tgt:Nat) (c:¬ s.size < k+2) (h:Q2c K (s.extract k s.size)=some tgt):shF K s p (f+1) k=(wd (49152+tgt),[]):=by
 rw [shF,if_neg c,h]
theorem Qal (K:List (ByteArray × Nat)) (s:ByteArray) (p f k:Nat) (c:¬ s.size < k+2) (h:Q2c K (s.extract k s.size)=none) :
  shF K s p (f+1) k=(s.extract k (k+1+bt s k)++(shF K s p f (k+1+bt s k)).1,Q2b (s.extract k s.size) (p+k)++(shF K s p f (k+1+bt s k)).2):=by
 rw [shF,if_neg c,h]
theorem Qcp {s:ByteArray} {k:Nat} (h:Tl s k) (c:¬ s.size < k+2):1≤bt s k∧bt s k≤63∧k+2+bt s k≤s.size∧Tl s (k+1+bt s k):=by
 cases h with
 | root _ h1 h2=>omega
 | lab _ h1 h2 h3=>have:=h3.lt; exact ⟨h1,h2,by omega,h3⟩
set_option maxRecDepth 100000 in
set_option maxHeartbeats 2000000 in
theorem Qg1 (N R:Nat) (B:ByteArray) (K:List (ByteArray × Nat)) (s:ByteArray) (p:Nat) (w:World) (h:Wr w N R B K) (hK:K.length≤300000) (hO:KOk K) (hp:p≤2000000) (ht:Tl s 0) (hs:s.size≤255) :
  Calls Tryz.prog 179 #[.pointer (some ⟨R,0,none⟩),.string s,.int .i64 p] w fun e w'=>e=.returned (.string (Q1p K s p).1)∧Wr w' N R B (K++(Q1p K s p).2)∧WFrame N w w':=by
 have hlt:=h.lt
 have H:=Qa h
 have HO:=Qa hO
 have HT:=Qa ht
 clear h hO ht
 obtain ⟨r,hr⟩:∃ r,Q1p K s p=r:=⟨_,rfl⟩
 rw [hr]
 have HR:Hid (shF K s p (s.size+1) 0=r):=hr
 clear hr
 go_enter Tryz.func179,Tryz.ntmps179
 go_wp2_with fail
 go_loopg [7] (s.size+1) (fun g a w'=>∃ (k:Nat) (own:List (ByteArray × Nat)),a=.int .i64 k∧s.size < k+g∧k≤s.size∧Hid (Tl s k)∧own.length≤k∧Hid (Wr w' N R B (K++own))∧Hid (WFrame N w w')∧Hid (∀ q,q∈own→s.size - k < q.1.size)∧∃ f,s.size < k+f∧Hid (r=(s.extract 0 k++(shF K s p f k).1,own++(shF K s p f k).2)))
 case atStart=>exact ⟨0,[],rfl,by omega,by omega,HT,Nat.le_refl _,by rw [List.append_nil]; exact H,WFrame.refl _ _,fun q hq=>by simp at hq,s.size+1,by omega,by rw [Q2z,empty_append,List.nil_append]; exact (Q6 HR).symm⟩
 case round =>
  obtain ⟨k,own,rfl,hg,hks,htk,hol,hW,hF,hown,f,hf,hres⟩:=hrel
  have hWlt:=(Q6 hW).lt
  by_cases c:s.size < k+2
  ·have hr2:=Q6 hres
   rw [QfZ K s p f k hf hks c] at hr2
   simp only [List.append_nil] at hr2
   rw [Q1t s 0 k s.size (Nat.zero_le _) hks (Nat.le_refl _),Q13] at hr2
   subst hr2
   clear hres HR
   go_wp2_with fail
   refine (Q9H _ _ _ _ (by omega) (by omega) (by omega) (by omega) (by omega)).mono ?_
   rintro e w' ⟨rfl,rfl⟩
   go_wp2_with fail
   go_ret
   exact ⟨rfl,Q6 hW,Q6 hF⟩
  ·obtain ⟨t1,t2,t3,t4⟩:=Qcp (Q6 htk) c
   obtain ⟨f,rfl⟩:∃ g,f=g+1:=⟨f - 1,by omega⟩
   have hse:(s.extract k s.size).size=s.size - k:=by rw [ByteArray.size_extract]; omega
   have hfk:Q2c (K++own) (s.extract k s.size)=Q2c K (s.extract k s.size):=Qc1 _ _ _ (fun q hq e=>by have:=Q6 hown q hq; rw [e,hse] at this; omega)
   have hlen:(K++own).length≤400000:=by rw [List.length_append]; omega
   have hg1:=Q10 s k (by omega)
   cases hfd:Q2c K (s.extract k s.size) with
   | some tgt =>
    have hr2:=Q6 hres
    rw [Qam K s p f k tgt c hfd] at hr2
    have hto:=Q6 HO _ (Q8f K _ tgt hfd)
    simp only at hto
    rw [hfd] at hfk
    have HFK:=Qa hfk
    have HR2:=Qa hr2
    have HL:=Qa hlen
    clear hfk hr2 hlen hfd hres HR
    go_wp2_with fail
    refine (Q2H _ _ _ _ (by omega) (by omega) (by omega) (by omega)).mono ?_
    rintro e w' ⟨rfl,rfl⟩
    go_wp2_with fail
    refine (Qia N R B (K++own) _ _ (Q6 hW) (Q6 HL)).mono ?_
    rw [Q6 HFK]
    rintro e w' ⟨rfl,rfl⟩
    simp only [Q49]
    go_wp2_with fail
    obtain ⟨z,hz⟩:∃ z,wd (49152+tgt)=z:=⟨_,rfl⟩
    have hwz:=Q00 (49152+tgt)
    have Key:Hid (∀ w,Calls Tryz.prog 126 #[.int .i64 (IntKind.i64.wrap (49152+(tgt:Int)))] w fun e w'=>e=.returned (.string z)∧Below w.heap.size w w'):=fun w=>by rw [←hz,IntWalk.i64_in _ (by omega)]; exact Q9h _ _ w (by omega) (by omega)
    rw [hz] at hwz HR2
    clear hz
    have he0:(s.extract 0 k).size≤255:=by rw [ByteArray.size_extract]; omega
    go_region_with (first | (go_at_call 126; refine (Q6 Key _).mono ?_; rintro e w1 ⟨rfl,hb1⟩))
    all_goals go_wp2_with fail
    all_goals go_ret
    all_goals
     have hb2:=Q0x hb1
     rw [Q6 HR2]
     refine ⟨rfl,?_,(Q6 hF).trans (WFrame.of_below hb2)⟩
     rw [List.append_nil]
     exact (Q6 hW).below hb2
   | none =>
    have hr2:=Q6 hres
    rw [Qal K s p f k c hfd] at hr2
    rw [hfd] at hfk
    have HFK:=Qa hfk
    have HR2:=Qa hr2
    have HL:=Qa hlen
    clear hfk hr2 hlen hfd hres HR
    go_wp2_with fail
    refine (Q2H _ _ _ _ (by omega) (by omega) (by omega) (by omega)).mono ?_
    rintro e w' ⟨rfl,rfl⟩
    go_wp2_with fail
    refine (Qia N R B (K++own) _ _ (Q6 hW) (Q6 HL)).mono ?_
    rw [Q6 HFK]
    rintro e w' ⟨rfl,rfl⟩
    simp only [Q49]
    go_wp2_with fail
    refine (Qkg N R B (K++own) _ (p+k) _ (Q6 hW) (Q6 HL) (by omega)).mono ?_
    rintro e w1 ⟨rfl,hW1,hF1⟩
    have HW1:=Qa hW1
    have HF1:=Qa hF1
    clear hW1 hF1
    go_wp2_with fail
    have hl1:(Q2b (s.extract k s.size) (p+k)).length≤1:=by unfold Q2b; split <;> simp
    go_roundg (gk - 1)
    case measure=>omega
    case rel =>
     refine ⟨k+1+bt s k,own++Q2b (s.extract k s.size) (p+k),by go_num,by omega,by omega,t4,by rw [List.length_append]; omega,?_,(Q6 hF).trans (Q6 HF1),?_,f,by omega,?_⟩
     ·show Wr _ _ _ _ _
      rw [←List.append_assoc]
      exact Q6 HW1
     ·intro q hq
      rcases List.mem_append.1 hq with h1 | h1
      ·have:=Q6 hown q h1; omega
      ·unfold Q2b at h1
       split at h1
       ·simp only [List.mem_singleton] at h1
        subst h1
        show _ < (s.extract k s.size).size
        omega
       ·simp at h1
     ·show _=_
      rw [Q6 HR2,←Q07,Q1t s 0 k _ (Nat.zero_le _) (by omega) (by omega),List.append_assoc]
theorem Qaw {s:ByteArray} (h:Q09 s=true):Tl s 0∧s.size≤255:=(Q3k s).1 h
set_option maxRecDepth 100000 in
set_option maxHeartbeats 1000000 in
theorem Qlw (N R:Nat) (B:ByteArray) (K:List (ByteArray × Nat)) (s:ByteArray) (w:World) (h:Wr w N R B K) (hK:K.length≤300000) (hO:KOk K) (hB:B.size≤390000) (hs:Q09 s=true) :
  Calls Tryz.prog 156 #[.pointer (some ⟨R,0,none⟩),.string s] w fun e w'=>e=.returned (.tuple #[])∧Wr w' N R (B++(Q1p K s B.size).1) (K++(Q1p K s B.size).2)∧WFrame N w w':=by
 obtain ⟨ht,h255⟩:=Qaw hs
 have key:=fun w (h:Wr w N R B K)=>Qg1 N R B K s B.size w h hK hO (by omega) ht h255
 have hlen:=(Q58 K s B.size).2
 have Key:=Qa key
 clear key hO ht hs
 generalize Q1p K s B.size=r at *
 obtain ⟨x,l⟩:=r
 simp only at hlen Key ⊢
 have H:=Qa h
 obtain ⟨vb,ab,cb,vk,ak,ck,hR,hN,rfl,rfl,o1,o2⟩:=h
 obtain ⟨c0,c1,z0,z1⟩:=Q3F hR
 clear hR o1 o2
 go_enter Tryz.func156,Tryz.ntmps156
 go_wp2_with fail
 refine (Q6 Key _ (Q6 H)).mono ?_
 rintro e w1 ⟨rfl,h1,f1⟩
 have H1:=Qa h1
 have F1:=Qa f1
 clear h1 f1
 go_wp2_with fail
 refine (Q9a N R B (K++l) x _ (Q6 H1) (by omega) (by omega)).mono ?_
 rintro e w2 ⟨rfl,h2,f2⟩
 have H2:=Qa h2
 have F2:=Qa f2
 clear h2 f2
 go_wp2_with fail
 go_end0
 exact ⟨rfl,Q6 H2,(Q6 F1).trans (Q6 F2)⟩
end Go.Proofs.YtdhobdmhnocbgabGreatDoor
