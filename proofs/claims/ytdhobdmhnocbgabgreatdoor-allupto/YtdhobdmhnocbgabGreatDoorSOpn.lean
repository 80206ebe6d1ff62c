import Derived.Test.YtdhobdmhnocbgabGreatDoorSFrm
import Derived.Test.YtdhobdmhnocbgabGreatDoorSOnkeep
import Derived.Test.YtdhobdmhnocbgabGreatDoorSRowW
import Derived.Deep.LoopGhost
import Derived.Deep.DeepCutAuto
import Derived.Deep.RegionHeld3
import Derived.Test.YtdhobdmhnocbgabGreatDoorSRecsW
import Derived.Test.YtdhobdmhnocbgabGreatDoorSParseX
import Derived.Test.YtdhobdmhnocbgabGreatDoorSWritY
import Derived.Test.YtdhobdmhnocbgabGreatDoorSWellY
import Derived.Test.YtdhobdmhnocbgabGreatDoorRows
import Derived.ProofKit
import Derived.JoinedCond
import Derived.Deep.Strs
namespace Go.Proofs.YtdhobdmhnocbgabGreatDoor
open Go.RowKit Zr
def Q21 (b:ByteArray):Nat:=if b.size < 2 then 2 else 2+num b 0 2
theorem QfQ (b:ByteArray):num b 0 2=256 * bt b 0+bt b 1:=by
 show 256 * (256 * 0+bt b (0+0))+bt b (0+1)=_
 rw [Nat.mul_zero,Nat.zero_add]
theorem Qg2 (b:ByteArray):Q21 b≤65537:=by
 unfold Q21
 split
 ·omega
 ·rw [QfQ]; have:=Q20 b 0; have:=Q20 b 1; omega
set_option maxHeartbeats 400000 in
theorem Qjd (b:ByteArray) (w:World) (hb:b.size≤281474976710656) :
  Calls Tryz.prog 142 #[.string b] w fun e w'=>e=.returned (.int .i64 (Q21 b))∧∃ n,w'=w.drewN n:=by
 by_cases c:b.size < 2
 ·have h:Hid (Q21 b=2):=by unfold Q21; show _=_; rw [if_pos c]
  go_enter Tryz.func142,Tryz.ntmps142
  go_wp2_with fail
  go_ret
  exact ⟨by rw [Q6 h]; rfl,0,rfl⟩
 ·have h:Hid (((Q21 b:Nat):Int)=2+256 * (bt b 0:Int)+bt b 1):=by unfold Q21; show _=_; rw [if_neg c,QfQ]; omega
  have g0:=Q10 b 0 (by omega)
  have g1:=Q10 b 1 (by omega)
  have l0:=Q20 b 0
  have l1:=Q20 b 1
  go_enter Tryz.func142,Tryz.ntmps142
  go_wp2_with fail
  go_quiet (fail)
  go_wp2_with fail
  go_ret
  exact ⟨QkK (Q6 h).symm,_,rfl⟩
def Q2D (b:ByteArray):Prop:=Q21 b≤b.size
instance (b:ByteArray):Decidable (Q2D b):=by unfold Q2D; exact inferInstance
theorem Qbo (b:ByteArray):Q2D b↔(0+2≤b.size∧0+2+num b 0 2≤b.size):=by
 unfold Q2D Q21
 by_cases c:b.size < 2
 ·rw [if_pos c]; omega
 ·rw [if_neg c]; omega
def Q5n (b:ByteArray):ByteArray:=if Q2D b then b.extract 2 (Q21 b) else ⟨#[]⟩
def Q29 (b:ByteArray):ByteArray:=if Q2D b then b.extract (Q21 b) b.size else ⟨#[]⟩
theorem Qco (b:ByteArray):2≤Q21 b:=by unfold Q21; split <;> omega
set_option maxHeartbeats 400000 in
theorem QfB (b:ByteArray) (w:World) (hb:b.size≤281474976710656) :
  Calls Tryz.prog 110 #[.string b] w fun e w'=>e=.returned (.tuple #[.string (Q5n b),.string (Q29 b),.bool (decide (Q2D b))])∧∃ n,w'=w.drewN n:=by
 have key:=fun W=>Qjd b W hb
 have hge:=Qco b
 have hle:=Qg2 b
 by_cases c:Q2D b
 ·have e1:Q5n b=b.extract 2 (Q21 b):=by unfold Q5n; rw [if_pos c]
  have e2:Q29 b=b.extract (Q21 b) b.size:=by unfold Q29; rw [if_pos c]
  have e3:decide (Q2D b)=true:=decide_eq_true c
  rw [e1,e2,e3]
  unfold Q2D at c
  clear e1 e2 e3
  have K:=Qa key
  clear key
  generalize Q21 b=n at *
  go_enter Tryz.func110,Tryz.ntmps110
  go_wp2_with fail
  refine (Q6 K _).mono ?_
  rintro e w' ⟨rfl,m,rfl⟩
  go_wp2_with fail
  go_quiet (fail)
  go_wp2_with fail
  go_ret3
  exact ⟨rfl,m+nq,by rw [World.drewN_drewN]⟩
 ·have e1:Q5n b=⟨#[]⟩:=by unfold Q5n; rw [if_neg c]
  have e2:Q29 b=⟨#[]⟩:=by unfold Q29; rw [if_neg c]
  have e3:decide (Q2D b)=false:=decide_eq_false c
  rw [e1,e2,e3]
  unfold Q2D at c
  clear e1 e2 e3
  have K:=Qa key
  clear key
  generalize Q21 b=n at *
  go_enter Tryz.func110,Tryz.ntmps110
  go_wp2_with fail
  refine (Q6 K _).mono ?_
  rintro e w' ⟨rfl,m,rfl⟩
  go_wp2_with fail
  go_ret3
  exact ⟨rfl,_,rfl⟩
def fdr (e l:ByteArray):Obj:=.cells #[.string e,.string l] 66 (0,0)
theorem Q3L {w:World} {R:Nat} {e l:ByteArray} (h:w.heap[R]? = some (fdr e l)) :
  w.cell? ⟨R,0,none⟩=some (.string e)∧w.cell? ⟨R,1,none⟩=some (.string l)∧w.frozen? ⟨R,0,none⟩=false∧w.frozen? ⟨R,1,none⟩=false:=by
 unfold fdr at h
 refine ⟨?_,?_,Qd h _,Qd h _⟩ <;> (rw [Qc h]; rfl)
set_option maxHeartbeats 400000 in
theorem QiA (R:Nat) (e l:ByteArray) (w:World) (h:w.heap[R]? = some (fdr e l)) (hz:e.size+l.size≤281474976710656) :
  Calls Tryz.prog 76 #[.pointer (some ⟨R,0,none⟩)] w fun r w'=>r=.returned (.int .i64 ((e.size:Int)+l.size))∧∃ n,w'=w.drewN n:=by
 obtain ⟨c0,c1,z0,z1⟩:=Q3L h
 clear h
 go_enter Tryz.func76,Tryz.ntmps76
 go_wp2_with fail
 go_quiet (fail)
 go_wp2_with fail
 go_ret
 exact ⟨rfl,_,rfl⟩
def Q4U (e l:ByteArray):Prop:=l.size < 256∧e.size+l.size < Q21 e
instance (e l:ByteArray):Decidable (Q4U e l):=by unfold Q4U; exact inferInstance
set_option maxHeartbeats 1000000 in
theorem QkV (R:Nat) (e l:ByteArray) (w:World) (h:w.heap[R]? = some (fdr e l)) (hz:e.size+l.size≤281474976710656) :
  Calls Tryz.prog 109 #[.pointer (some ⟨R,0,none⟩)] w fun r w'=>r=.returned (.bool (decide (Q4U e l)))∧∃ n,w'=w.drewN n:=by
 have kl:=fun W (h:W.heap[R]? = some (fdr e l))=>QiA R e l W h hz
 have ks:=fun W=>Qjd e W (by omega)
 obtain ⟨c0,c1,z0,z1⟩:=Q3L h
 have hle:=Qg2 e
 by_cases c:l.size < 256
 ·have hd:Hid (decide (Q4U e l)=decide (((e.size:Int)+l.size) < (Q21 e:Int))):=by
   show _=_
   rw [Bool.eq_iff_iff]
   simp only [decide_eq_true_eq]
   unfold Q4U
   omega
  have HK:=Qa kl
  have HS:=Qa ks
  have H:=Qa h
  generalize Q21 e=n at *
  clear kl ks h
  go_enter Tryz.func109,Tryz.ntmps109
  have g1:decide ((l.size:Int) < 256)=true:=decide_eq_true (by omega)
  go_wp2_with fail
  go_quiet (first
   | (go_at_call 76; exact Calls.quiet_of (Q6 HK _ (Q6 H)))
   | (go_at_call 142; exact Calls.quiet_of (Q6 HS _)))
  go_wp2_with fail
  go_ret
  exact ⟨Q0B (Q6 hd).symm,_,rfl⟩
 ·have hd:Hid (decide (Q4U e l)=false):=decide_eq_false fun h=>c h.1
  clear kl ks h
  go_enter Tryz.func109,Tryz.ntmps109
  have g1:decide ((l.size:Int) < 256)=false:=decide_eq_false (by omega)
  go_wp2_with fail
  go_quiet (fail)
  go_wp2_with fail
  go_ret
  exact ⟨Q0B (Q6 hd).symm,_,rfl⟩
theorem Qbh {b:ByteArray} (h:Q2D b):Q11 b 0=(Q5n b :: (Q11 (Q29 b) 0).1,(Q11 (Q29 b) 0).2):=by
 have h':=(Qbo b).1 h
 have e:Q21 b=2+num b 0 2:=by unfold Q21; rw [if_neg (by omega)]
 unfold Q5n Q29
 rw [if_pos h,if_pos h,Q4E h',e]
 have:=Q8d b (2+num b 0 2) 0 (by omega)
 rw [Nat.add_zero] at this
 rw [Nat.zero_add,this]
theorem Q8c {b:ByteArray} (h:¬ Q2D b):Q11 b 0=([],b.size):=Q4S fun h'=>h ((Qbo b).2 h')
theorem Q8l {b:ByteArray} (h:¬ Q2D b):Q1P b=b:=by
 unfold Q1P
 rw [Q8c h]
 simp only [Nat.sub_self]
 exact Q13 b
theorem QeE {b:ByteArray} (h:Q2D b):Q1P b=Q1P (Q29 b):=by
 have h':=h
 unfold Q2D at h'
 have hr:Q29 b=b.extract (Q21 b) b.size:=by unfold Q29; rw [if_pos h]
 have hz:(Q29 b).size=b.size - Q21 b:=by rw [hr,Q0L _ _ h']
 have hc:=Qbh h
 have hl:=Q5j (Q29 b) 0
 unfold Q1P
 rw [hc]
 simp only
 have m:=Qc0 b (Q21 b) ((Q29 b).size - (Q11 (Q29 b) 0).2) (Q29 b).size (by omega) (by omega)
 rw [←hr] at m
 rw [m]
 congr 1 <;> omega
theorem Qfk {e l:ByteArray} (h:Q4U e l):¬ Q2D (e++l):=by
 obtain ⟨_,h2⟩:=h
 unfold Q2D
 rw [ByteArray.size_append]
 have:Q21 e≤Q21 (e++l):=by
  unfold Q21
  rw [ByteArray.size_append]
  by_cases c:e.size < 2
  ·rw [if_pos c]; split <;> omega
  ·rw [if_neg c,if_neg (by omega),Q9X e l 0 2 (by omega)]
   exact Nat.le_refl _
 omega
def stC (l:List ByteArray):List Value:=l.map Value.string
theorem Q7h (a b:List ByteArray):stC (a++b)=stC a++stC b:=by simp [stC]
theorem Q4j (a:List ByteArray):(stC a).length=a.length:=by simp [stC]
theorem Tryz.infoTx:(Tryz.prog.info? 9).map (fun i=>(i.zero,i.size,i.bytes))=some (some (.string ⟨#[]⟩),1,16):=by kernel_rfl
theorem Q1O (w:World) (x0:Value) (t:TypeId) (B:Nat) (hB:B=w.heap.size):∀ j u,[x0][j]? = some u→(w.alloc (.cells #[x0] t)).cell? ((⟨B,0,none⟩:Addr).add j)=some u:=by
 subst hB
 exact World.news_of_block (cs:=#[x0]) (heap_alloc_new w _)
theorem Qej (w:World) (s:ByteArray):∃ c w',(convert 9 128 (.string s)).run Tryz.prog w=.ok (.slice (some ⟨w.heap.size,0,none⟩) s.size c) w'∧Below w.heap.size w w'∧(convert 128 9 (.slice (some ⟨w.heap.size,0,none⟩) s.size c)).run Tryz.prog w'=.ok (.string s) w':=by
 refine ⟨_,_,run_bytes_of_string w 9 128 5 s Tryz.underlying9 Tryz.underlying128 Tryz.underlying5,⟨rfl,rfl,rfl,by simp,fun k hk=>heap_alloc_old w.drew _ hk⟩,?_⟩
 have h:=run_convert_bytes_back (P:=Tryz.prog) (w.drew.alloc (.cells (bytesRow s (grownCap w s.size 0 5)) 5 ((bytesRow s (grownCap w s.size 0 5)).size,(bytesRow s (grownCap w s.size 0 5)).size+1))) 128 9 5 ⟨w.heap.size,0,none⟩ (grownCap w s.size 0 5) s.data.toList Tryz.underlying128 Tryz.underlying5 Tryz.underlying9 (fun j hj=>by
  have hn:∀ o:Obj,(w.drew.alloc o).heap[w.heap.size]? = some o:=fun o=>heap_alloc_new w.drew o
  have hj':j < s.data.size:=by simpa using hj
  simp only [World.cell?,Addr.add_lit,Nat.zero_add,hn]
  unfold bytesRow
  rw [Array.getElem?_append_left (by simpa using hj')]
  simp
  exact ⟨s.data[j],by simp,rfl⟩)
 have hl:s.data.toList.length=s.size:=by rw [Array.length_toList]; rfl
 rw [hl] at h
 exact h
def FdAt (w:World) (R:Nat) (p:ByteArray):Prop:=∃ e l,w.heap[R]? = some (fdr e l)∧e++l=Q1P p
def Q7n (w:World) (R:Nat) (p chunk:ByteArray) (r:Ending) (w':World):Prop :=
 ∃ (L:List ByteArray) (a:Option Addr) (c:Nat),Q11 (Q1P p++chunk) 0=(L,(Q11 (Q1P p++chunk) 0).2)∧r=.returned (.slice a L.length c)∧w'.ownsRow w.heap.size 9 1 (.slice a L.length c) L.length (stC L)∧FdAt w' R (p++chunk)∧w.grownBy w' (some R)
set_option maxRecDepth 100000 in
set_option maxHeartbeats 2000000 in
theorem QlL (R:Nat) (p chunk:ByteArray) (w:World) (h:FdAt w R p) (hz:p.size+chunk.size≤67108864) :
  Calls Tryz.prog 74 #[.pointer (some ⟨R,0,none⟩),.string chunk] w fun r w'=>Q7n w R p chunk r w':=by
 obtain ⟨e,l,hR,hel⟩:=h
 have hlt:=Qb hR
 have hsz:e.size+l.size≤p.size:=by
  have h1:=congrArg ByteArray.size hel
  rw [ByteArray.size_append,Q8m] at h1
  have:=Q5j p 0
  omega
 obtain ⟨c0,c1,z0,z1⟩:=Q3L hR
 have hR1:(w.setCell ⟨R,1,none⟩ (.string (l++chunk))).heap[R]? = some (fdr e (l++chunk)):=Qo hR _ _
 have hg1:w.grownBy (w.setCell ⟨R,1,none⟩ (.string (l++chunk))) (some R):=Ql _ _ _ _
 have HR1:=Qa hR1
 have HG1:=Qa hg1
 have HEL:=Qa hel
 clear hR hel hR1 hg1
 go_enter Tryz.func74,Tryz.ntmps74
 go_wp2_with fail
 generalize hw1:w.setCell ⟨R,1,none⟩ (.string (l++chunk))=w1 at *
 have hll:(l++chunk).size=l.size+chunk.size:=ByteArray.size_append
 have hell:Q1P p++chunk=e++(l++chunk):=by rw [←Q6 HEL,ByteArray.append_assoc]
 have HELL:=Qa hell
 generalize l++chunk=l1 at *
 clear hell c0 c1 z0 z1 hw1
 refine (QkV R e l1 w1 (Q6 HR1) (by omega)).mono ?_
 rintro r w2 ⟨rfl,n2,rfl⟩
 obtain ⟨c0,c1,z0,z1⟩:=Q3L (Q6 HR1)
 by_cases cw:Q4U e l1
 ·have hd:decide (Q4U e l1)=true:=decide_eq_true cw
  rw [hd]
  have hn:=Qfk cw
  clear hd
  go_wp2_with fail
  go_ret
  refine ⟨[],none,0,?_,rfl,World.ownsRow_nil _ _ _ _,?_,?_⟩
  ·rw [Q6 HELL,Q8c hn]
  ·refine ⟨e,l1,Q6 HR1,?_⟩
   rw [Q9P,Q6 HELL,Q8l hn]
  ·exact Qp (Q6 HG1) (Q40 _ _ _)
 ·have hd:decide (Q4U e l1)=false:=decide_eq_false cw
  rw [hd]
  clear hd
  go_wp2_with fail
  go_quiet (fail)
  go_wp2_with fail
  have hes:(e++l1).size=e.size+l1.size:=ByteArray.size_append
  generalize e++l1=s at *
  refine (QfB s _ (by omega)).mono ?_
  rintro r w3 ⟨rfl,n3,rfl⟩
  go_wp2_with fail
  have hlt1:w.heap.size≤w1.heap.size:=(Q6 HG1).size
  obtain ⟨M,hM⟩:∃ M,w.heap.size=M:=⟨_,rfl⟩
  rw [hM] at hlt hlt1
  have HM:=Qa hM
  have H3:=Qa (Qp (Q6 HG1) (Q40 _ (n2+nq+n3) _))
  have HF3:Hid ((w1.drewN (n2+nq+n3)).heap[R]? = some (fdr e l1)):=HR1
  have hs3:M≤(w1.drewN (n2+nq+n3)).heap.size:=hlt1
  obtain ⟨i0,hi,hz0,hz1,hz2⟩:=info_parts Tryz.infoTx
  have Hi:=Qa hi
  have Hz0:=Qa hz0
  have Hz1:=Qa hz1
  have Hz2:=Qa hz2
  clear hi hz0 hz1 hz2 hM c0 c1 z0 z1 hlt1 HG1 HR1
  generalize w1.drewN (n2+nq+n3)=w3 at *
  go_loopg [5,6,7,8,9] (s.size+1) (fun g vl vh vm vr vf w'=>∃ (L:List ByteArray) (j:Nat) (ar:Option Addr) (cr:Nat) (h:ByteArray),vl=.slice ar j cr∧vh=.string h∧vm=.string (Q5n h)∧vr=.string (Q29 h)∧vf=.bool (decide (Q2D h))∧j+h.size≤s.size∧g=h.size+1∧Hid (L.length=j)∧Hid (Q11 s 0=(L++(Q11 h 0).1,(Q11 h 0).2))∧Hid (Q1P s=Q1P h)∧Hid (w'.ownsRow M 9 1 (.slice ar j cr) j (stC L))∧Hid (w'.heap[R]? = some (fdr e l1))∧Hid (w.grownBy w' (some R))∧M≤w'.heap.size)
  case atStart=>exact ⟨[],0,none,0,s,rfl,rfl,rfl,rfl,rfl,by omega,rfl,Qa rfl,Qa rfl,Qa rfl,Qa (World.ownsRow_nil _ _ _ _),HF3,H3,hs3⟩
  case round =>
   obtain ⟨L,j,ar,cr,h,rfl,rfl,rfl,rfl,rfl,hjh,rfl,HL,HC,HLE,HO,HF,HG,hs⟩:=hrel
   by_cases ch:Q2D h
   ·have hd:decide (Q2D h)=true:=decide_eq_true ch
    rw [hd]
    have hrs:(Q29 h).size+2≤h.size:=by
     have h1:Q29 h=h.extract (Q21 h) h.size:=by unfold Q29; rw [if_pos ch]
     have h2:=Qco h
     have h3:=ch
     unfold Q2D at h3
     rw [h1,Q0L _ _ h3]
     omega
    have HC1:=Qa (Qbh ch)
    have HL1:=Qa (QeE ch)
    clear hd ch
    generalize Q5n h=m at *
    generalize Q29 h=rr at *
    go_wp2_with (at_builtin; refine Qe _ rfl _ _ 34 34 rfl M 9 i0 (.string ⟨#[]⟩) 1 16 Tryz.underlying34 (Q6 Hi) (Q6 Hz0) (Q6 Hz1) (Q6 Hz2) rfl (.slice ar j cr) j (stC L) (by rfl) ((Q6 HO).alloc _) (.slice (some ⟨wr.heap.size,0,none⟩) 1 1) 1 [.string m] (by rfl) (Src.ofSlice _ Tryz.underlying34 ⟨wr.heap.size,0,none⟩ 1 1 _ rfl (Q1O _ _ _ _ rfl) (fun x hx=>by simp at hx; subst hx; rfl)) (by unfold maxLen; omega) (by omega) (by simp; omega) ?_; intro a1 e1 w4 hown4 hgrow4 hat4)
    have hb4:=(Below.refl wr.heap.size wr).alloc (Nat.le_refl _) (.cells #[.string m] 9)
    have hne:∀ k,k < M→(Value.slice ar j cr).ownBlock≠some k:=fun k hk he=>by have:=((Q6 HO).lt k he).1; omega
    have HF4:=Qa ((hgrow4.block R (by simp; omega) (fun he=>hne R hlt he.symm)).trans ((hb4.block R (by omega)).trans (Q6 HF)))
    have HG4:=Qa (Q4Z (Q6 HG) (Qp (Q1l hb4) hgrow4) (fun k hk=>by rw [Q6 HM]; exact ((Q6 HO).lt k hk).1))
    have HO4:=Qa hown4
    have hs4:M≤w4.heap.size:=by have:=hgrow4.size; have:=hb4.size; omega
    clear hb4 hgrow4 hown4 hat4
    refine (QfB rr _ (by omega)).mono ?_
    rintro r w5 ⟨rfl,n5,rfl⟩
    go_wp2_with fail
    go_roundg (rr.size+1)
    case measure=>omega
    case rel =>
     refine ⟨L++[m],j+1,a1,e1,rr,rfl,rfl,rfl,rfl,rfl,by omega,rfl,Qa (by rw [List.length_append,Q6 HL]; rfl),Qa ?_,Qa ((Q6 HLE).trans (Q6 HL1)),Qa (by rw [Q7h]; exact Q6 HO4),HF4,Qa (Qp (Q6 HG4) (Q40 _ _ _)),hs4⟩
     rw [Q6 HC,Q6 HC1]
     simp
   ·have hd:decide (Q2D h)=false:=decide_eq_false ch
    rw [hd]
    obtain ⟨c9,w9,hc1,hb9,hc2⟩:=Qej wr h
    have hR9:=(hb9.block R (Qb (Q6 HF))).trans (Q6 HF)
    obtain ⟨c0,c1,z0,z1⟩:=Q3L hR9
    obtain ⟨d0,d1,y0,y1⟩:=Q3L (Q6 HF)
    have HR9:=Qa hR9
    have HB9:=Qa hb9
    clear hR9 hb9 hd
    go_wp2_with fail
    go_ret
    have hu:=Q6 HC
    rw [Q8c ch,List.append_nil] at hu
    refine ⟨L,ar,cr,?_,by rw [Q6 HL]; rfl,?_,⟨h,⟨#[]⟩,?_,?_⟩,?_⟩
    ·rw [Q6 HELL,hu]
    ·rw [Q6 HL,Q6 HM]
     exact (Q6 HO).kept (Qp (Q1l (Q6 HB9)) (Qp (Ql _ R _ _) (Ql _ R _ _))) (.inr (fun he=>by have:=((Q6 HO).lt R he).1; omega))
    ·exact Qo (Qo (Q6 HR9) 0 _) 1 _
    ·rw [show h++(⟨#[]⟩:ByteArray)=h from ByteArray.append_empty,Q9P,Q6 HELL,Q6 HLE,Q8l ch]
    ·exact Qp (Q6 HG) (Qp (Q1l (Q6 HB9)) (Qp (Ql _ R _ _) (Ql _ R _ _)))
def FrmIs (l:List ByteArray) (s:ByteArray) (e:Int):Prop :=
 (∃ x,x∈l∧65535 < x.size)∧s=⟨#[]⟩∧e=1∨(∀ x,x∈l→x.size≤65535)∧s=Q2h l∧e=0
theorem FrmIs.same {l:List ByteArray} {s t:ByteArray} {e f:Int} (h:FrmIs l s e) (k:FrmIs l t f):s=t∧e=f:=by
 rcases h with ⟨⟨x,hx,hx2⟩,h1,h2⟩ | ⟨h0,h1,h2⟩ <;> rcases k with ⟨⟨y,hy,hy2⟩,k1,k2⟩ | ⟨k0,k1,k2⟩
 ·exact ⟨h1.trans k1.symm,h2.trans k2.symm⟩
 ·exact absurd (k0 x hx) (by omega)
 ·exact absurd (h0 y hy) (by omega)
 ·exact ⟨h1.trans k1.symm,h2.trans k2.symm⟩
theorem Qfd {l:List ByteArray} {i:Nat} (h:i < l.length):(stC l)[i]? = some (.string l[i]):=by
 unfold stC
 rw [List.getElem?_map,List.getElem?_eq_getElem h]
 rfl
theorem QdE {w:World} {N:Nat} {a:Option Addr} {l:List ByteArray} (h:RowAt w N a (stC l)) (i:Nat) (hi:i < l.length):∃ b o,a=some ⟨b,o,none⟩∧b < N∧w.cell? ⟨b,o+i,none⟩=some (.string l[i]):=by
 obtain ⟨b,o,h1,h2,h3⟩:=h (fun e=>by have:=Qfd hi; rw [e] at this; simp at this)
 exact ⟨b,o,h1,h2,h3 _ _ (Qfd hi)⟩
theorem Qbk (l:List ByteArray) (j:Nat) (h:j < l.length):Q2r (l.take (j+1))=Q2r (l.take j)+2+l[j].size:=by
 rw [List.take_succ_eq_append_getElem h,Q5Z]
 show _+(2+l[j].size+0)=_
 omega
theorem Q9D (l:List ByteArray) (j:Nat) (h:j < l.length):Q2h (l.take (j+1))=Q2h (l.take j)++wd l[j].size++l[j]:=by
 rw [List.take_succ_eq_append_getElem h,Q7A]
 show _++(wd l[j].size++l[j]++⟨#[]⟩)=_
 rw [show wd l[j].size++l[j]++(⟨#[]⟩:ByteArray)=wd l[j].size++l[j] from ByteArray.append_empty,ByteArray.append_assoc]
theorem Q7D (l:List ByteArray) (j:Nat):Q2r (l.take j)≤Q2r l:=by
 conv=>rhs; rw [←List.take_append_drop j l]
 rw [Q5Z]
 omega
set_option maxRecDepth 100000 in
set_option maxHeartbeats 2000000 in
theorem Qka (l:List ByteArray) (a:Option Addr) (c N:Nat) (w:World) (hrow:RowAt w N a (stC l)) (hN:N≤w.heap.size) (hl:l.length≤33554432) (hz:Q2r l≤67108864) :
  Calls Tryz.prog 89 #[.slice a l.length c] w fun r w'=>∃ s e,r=.returned (.tuple #[.string s,.int .i64 e])∧FrmIs l s e∧Below w.heap.size w w':=by
 have HRow:=Qa hrow
 have HZ:=Qa (fun j (h:j < l.length)=>Qbk l j h)
 have HZ2:=Qa (fun j=>Q7D l j)
 obtain ⟨i0,hi,hz0,hz1,hz2⟩:=info_parts Tryz.info5
 have Hi:=Qa hi
 have Hz0:=Qa hz0
 have Hz1:=Qa hz1
 have Hz2:=Qa hz2
 clear hi hz0 hz1 hz2 hrow
 go_enter Tryz.func89,Tryz.ntmps89
 go_wp2_with fail
 go_loop [4] (fun i=>∃ j:Nat,j≤l.length∧i=.int .i64 j∧Hid (∀ k (h:k < l.length),k < j→l[k].size≤65535)) (fun i=>l.length - (intOf i).toNat)
 case atStart=>exact ⟨0,Nat.zero_le _,rfl,Qa fun k _ hk=>by omega⟩
 case round =>
  obtain ⟨j,hj,rfl,HA⟩:=hrel
  by_cases cj:j < l.length
  ·obtain ⟨b,o,rfl,hb,x0⟩:=QdE (Q6 HRow) j cj
   by_cases cx:65535 < l[j].size
   ·have HX:Hid (∃ x,x∈l∧65535 < x.size):=Qa ⟨_,List.getElem_mem cj,cx⟩
    generalize l[j]=x at *
    go_wp2_with fail
    go_ret2
    exact ⟨_,_,rfl,.inl ⟨Q6 HX,rfl,rfl⟩,Below.refl _ _⟩
   ·have HA2:Hid (∀ k (h:k < l.length),k < j+1→l[k].size≤65535):=Qa fun k hk hkj=>by
     by_cases e:k=j
     ·subst e; omega
     ·exact Q6 HA k hk (by omega)
    generalize l[j]=x at *
    go_wp2_with fail
    go_round
    case rel=>exact ⟨j+1,by omega,by go_num,HA2⟩
    case measure=>simp [intOf]; omega
  ·have ej:j=l.length:=by omega
   subst ej
   have HAll:Hid (∀ x,x∈l→x.size≤65535):=Qa fun x hx=>by
    obtain ⟨k,hk,rfl⟩:=List.mem_iff_getElem.1 hx
    exact Q6 HA k hk hk
   clear HA
   go_wp2_with fail
   obtain ⟨M,hM⟩:∃ M,w.heap.size=M:=⟨_,rfl⟩
   rw [hM] at hN
   have HM:=Qa hM
   have hs0:M≤w.heap.size:=by omega
   clear hM
   go_loopg [5,6] (l.length+1) (fun g vb vi w'=>∃ (j n:Nat) (ab:Option Addr) (cb:Nat),vi=.int .i64 j∧j≤l.length∧g=l.length+1 - j∧vb=.slice ab n cb∧n≤67108864∧Hid ((Q2h (l.take j)).size=n)∧Hid (w'.ownsRow M 5 1 (.slice ab n cb) n (byteCells (Q2h (l.take j))))∧Hid (Below M w w')∧M≤w'.heap.size)
   case atStart=>exact ⟨0,0,none,0,rfl,Nat.zero_le _,rfl,rfl,by omega,Qa rfl,Qa (World.ownsRow_nil _ _ _ _),Qa (Below.refl _ _),hs0⟩
   case round =>
    obtain ⟨j,n,ab,cb,rfl,hj,rfl,rfl,hn,HS,HO,HB,hs⟩:=hrel
    by_cases cj:j < l.length
    ·obtain ⟨b,o,rfl,hb,x0⟩:=QdE ((Q6 HRow).below ((Q6 HB).mono hN)) j cj
     have hx:=Q6 HAll _ (List.getElem_mem cj)
     have hz3:=Q6 HZ j cj
     have hz4:=Q6 HZ2 (j+1)
     have hz5:=(Q73 (l.take j)).symm.trans (Q6 HS)
     have hf:=Q9D l j cj
     have HFT:=Qa hf
     clear hf
     generalize l[j]=x at *
     have hn2:n+2+x.size≤67108864:=by omega
     clear hz3 hz4 hz5
     go_wp2_with fail
     refine (Q86 x.size _ (by omega)).mono ?_
     rintro r w1 ⟨rfl,hb1⟩
     have hbM:=hb1.mono hs
     have x1:=(hb1.cell (p:=⟨b,o+j,none⟩) (by show b < _; omega)).trans x0
     have HO1:=Qa ((Q6 HO).kept (Q1l (row:=none) hb1) (by
      cases e:(Value.slice ab n cb).ownBlock with
      | none=>exact .inl rfl
      | some g=>exact .inr (by simp)))
     have HB1:=Qa ((Q6 HB).trans hbM)
     have hs1:M≤w1.heap.size:=Nat.le_trans hs hb1.size
     have hw2:=Q00 x.size
     generalize hwd:wd x.size=y at *
     clear hb1 hbM x0 hwd
     go_upto_region 12 with (at_builtin; refine Qe _ rfl _ _ 128 9 rfl M 5 i0 (.int .u8 0) 1 1 Tryz.underlying128 (Q6 Hi) (Q6 Hz0) (Q6 Hz1) (Q6 Hz2) rfl (.slice ab n cb) n (byteCells (Q2h (l.take j))) (by rfl) (Q6 HO1) (.string y) y.size (byteCells y) (by rfl) (Src.ofString _ Tryz.underlying9 y) (by unfold maxLen; omega) (by omega) (by omega) ?_; intro a1 e1 w2 hown2 hgrow2 hat2)
     have hne:∀ k,k < M→(Value.slice ab n cb).ownBlock≠some k:=fun k hk he=>by have:=((Q6 HO1).lt k he).1; omega
     have hbM2:Below M w1 w2:=⟨hgrow2.os,hgrow2.tape,hgrow2.output,hgrow2.size,fun k hk=>hgrow2.block k (by omega) fun e=>hne k hk e.symm⟩
     have x2:=(hbM2.cell (p:=⟨b,o+j,none⟩) (by show b < _; omega)).trans x1
     have HO2:=Qa hown2
     have HB2:=Qa ((Q6 HB1).trans hbM2)
     have hs2:M≤w2.heap.size:=Nat.le_trans hs1 hgrow2.size
     rw [hw2] at HO2
     clear hgrow2 hat2 hown2 hne hbM2 x1
     go_wp2_with (at_builtin; refine Qe _ rfl _ _ 128 9 rfl M 5 i0 (.int .u8 0) 1 1 Tryz.underlying128 (Q6 Hi) (Q6 Hz0) (Q6 Hz1) (Q6 Hz2) rfl (.slice a1 (n+2) e1) (n+2) _ (by rfl) (Q6 HO2) (.string x) x.size (byteCells x) (by rfl) (Src.ofString _ Tryz.underlying9 x) (by unfold maxLen; omega) (by omega) (by omega) ?_; intro a3 e3 w3 hown3 hgrow3 hat3)
     go_roundg (l.length+1 - (j+1))
     case measure=>omega
     case rel =>
      have hne:∀ k,k < M→(Value.slice a1 (n+2) e1).ownBlock≠some k:=fun k hk he=>by have:=((Q6 HO2).lt k he).1; omega
      have hbM3:Below M w2 w3:=⟨hgrow3.os,hgrow3.tape,hgrow3.output,hgrow3.size,fun k hk=>hgrow3.block k (by omega) fun e=>hne k hk e.symm⟩
      refine ⟨j+1,n+2+x.size,a3,e3,by go_num,by omega,rfl,rfl,hn2,Qa ?_,Qa ?_,Qa ((Q6 HB2).trans hbM3),Nat.le_trans hs2 hgrow3.size⟩
      ·rw [Q6 HFT,ByteArray.size_append,ByteArray.size_append,Q6 HS,hw2]
      ·rw [Q6 HFT,Q1R,Q1R]
       exact hown3
    ·have ej:j=l.length:=by omega
     subst ej
     have HS2:=Qa (Q1v (P:=Tryz.prog) wr 128 9 5 Tryz.underlying128 Tryz.underlying5 Tryz.underlying9 M (.slice ab n cb) (Q2h l) (by have:=Q6 HO; rw [List.take_length] at this; have h2:=Q6 HS; rw [List.take_length] at h2; rw [h2]; exact this))
     go_wp2_with fail
     rw [Q6 HS2]
     go_wp2_with fail
     go_ret2
     exact ⟨_,_,rfl,.inr ⟨Q6 HAll,rfl,rfl⟩,by rw [Q6 HM]; exact Q6 HB⟩
set_option maxHeartbeats 400000 in
theorem Qkb (l:List ByteArray) (a:Option Addr) (c N:Nat) (w:World) (hrow:RowAt w N a (stC l)) (hN:N≤w.heap.size) (hl:l.length≤33554432) (hz:Q2r l≤67108864) :
  Calls Tryz.prog 55 #[.slice a l.length c] w fun r w'=>∃ s e,r=.returned (.tuple #[.string s,.int .i64 e])∧FrmIs l s e∧Below w.heap.size w w':=by
 have key:=Qka l a c N w hrow hN hl hz
 have K:=Qa key
 clear key hrow
 go_enter Tryz.func55,Tryz.ntmps55
 go_wp2_with fail
 refine (Q6 K).mono ?_
 rintro r w1 ⟨s,e,rfl,h1,h2⟩
 have H1:=Qa h1
 have H2:=Qa h2
 clear h1 h2
 go_wp2_with fail
 go_ret2
 exact ⟨_,_,rfl,Q6 H1,Q6 H2⟩
theorem Qiz:Q1P ⟨#[]⟩=⟨#[]⟩:=Q8l fun h=>by
 have h1:=Qco ⟨#[]⟩
 unfold Q2D at h
 exact absurd (show Q21 ⟨#[]⟩≤0 from h) (by omega)
set_option maxHeartbeats 400000 in
theorem QgU (w:World):Calls Tryz.prog 9 #[] w fun r w'=>r=.returned (.pointer (some ⟨w.heap.size,0,none⟩))∧w'.heap[w.heap.size]? = some (fdr ⟨#[]⟩ ⟨#[]⟩)∧w'.heap.size=w.heap.size+1∧Below w.heap.size w w':=by
 go_enter Tryz.func9,Tryz.ntmps9
 go_wp2_with fail
 go_ret
 exact ⟨rfl,heap_alloc_new _ _,by simp,(Below.refl _ _).alloc (Nat.le_refl _) _⟩
theorem Qi9 {w:World} {R:Nat} (h:w.heap[R]? = some (fdr ⟨#[]⟩ ⟨#[]⟩)):FdAt w R ⟨#[]⟩:=⟨_,_,h,by rw [Qiz]; rfl⟩
set_option maxHeartbeats 400000 in
theorem QlM (R:Nat) (p chunk:ByteArray) (w:World) (h:FdAt w R p) (hz:p.size+chunk.size≤67108864) :
  Calls Tryz.prog 37 #[.pointer (some ⟨R,0,none⟩),.string chunk] w fun r w'=>Q7n w R p chunk r w':=by
 have key:=QlL R p chunk w h hz
 obtain ⟨e,l,hR,_⟩:=h
 have hlt:=Qb hR
 have K:=Qa key
 clear key hR
 go_enter Tryz.func37,Tryz.ntmps37
 go_wp2_with fail
 refine (Q6 K).mono ?_
 rintro r w1 ⟨L,a,c,h1,rfl,h2,h3,h4⟩
 have H:Hid (Q7n w R p chunk (.returned (.slice a L.length c)) w1):=Qa ⟨L,a,c,h1,rfl,h2,h3,h4⟩
 clear h1 h2 h3 h4
 go_wp2_with fail
 go_ret
 exact Q6 H
set_option maxHeartbeats 400000 in
theorem Qlr (R:Nat) (p:ByteArray) (w:World) (h:FdAt w R p) (hz:p.size≤67108864) :
  Calls Tryz.prog 39 #[.pointer (some ⟨R,0,none⟩)] w fun r w'=>r=.returned (.int .i64 ((Q11 p 0).2:Nat))∧∃ n,w'=w.drewN n:=by
 obtain ⟨e,l,hR,hel⟩:=h
 have hs:e.size+l.size=(Q11 p 0).2:=by rw [←Q8m,←hel,ByteArray.size_append]
 have hle:=Q5j p 0
 have key:=QiA R e l w hR (by omega)
 have hi:((e.size:Int)+l.size)=((Q11 p 0).2:Nat):=by omega
 rw [hi] at key
 have K:=Qa key
 obtain ⟨c0,c1,z0,z1⟩:=Q3L hR
 generalize (Q11 p 0).2=n at *
 clear key hR hel hs hi
 go_enter Tryz.func39,Tryz.ntmps39
 go_wp2_with fail
 refine (Q6 K).mono ?_
 rintro r w1 ⟨rfl,m,rfl⟩
 go_wp2_with fail
 go_ret
 exact ⟨rfl,m,rfl⟩
def QmM (l:List ByteArray) (k g:Nat):Prop:=g≤l.length∧Q2r (l.take g)≤k∧(∀ h:g < l.length,k < Q2r (l.take g)+2+l[g].size)∧Q11 ((Q2h l).extract 0 k) 0=(l.take g,k - Q2r (l.take g))
def CutsAt (w:World) (N:Nat) (a:Option Addr) (n:Nat):Prop:=0 < n→∃ b o,a=some ⟨b,o,none⟩∧b < N∧∀ i,i < n→∃ v:Int,-9223372036854775808≤v∧v < 9223372036854775808∧w.cell? ⟨b,o+i,none⟩=some (.int .i64 v)
theorem CutsAt.below {w w':World} {N:Nat} {a:Option Addr} {n:Nat} (h:CutsAt w N a n) (hb:Below N w w'):CutsAt w' N a n:=by
 intro hn
 obtain ⟨b,o,h1,h2,h3⟩:=h hn
 refine ⟨b,o,h1,h2,fun i hi=>?_⟩
 obtain ⟨v,h4,h5,h6⟩:=h3 i hi
 exact ⟨v,h4,h5,(hb.cell (p:=⟨b,o+i,none⟩) h2).trans h6⟩
end Go.Proofs.YtdhobdmhnocbgabGreatDoor
namespace Go.Proofs.YtdhobdmhnocbgabGreatDoor
open Go.ChangeShapes Go.WideShapes Go.ChangeAt Go.RowKit Go.Deep Zr
theorem Tryz.ownU:ownKnob Tryz.prog.godebug=none:=by kernel_rfl
theorem Tryz.laidOutU:laidOutB Tryz.prog=true:=by kernel_rfl
theorem Q7s (b o k:Nat):(Addr.mk b o none).add k=⟨b,o+k,none⟩:=by
 unfold Addr.add
 split
 ·next h=>subst h; rfl
 ·rfl
theorem QbX {w:World} {a:Addr} {v:Value} (h:w.cell? a=some v):a.block < w.heap.size:=by
 rcases Nat.lt_or_ge a.block w.heap.size with hb | hb
 ·exact hb
 ·simp [World.cell?,hb] at h
def Q8I:List ByteArray→Nat
 | []=>0
 | x :: l=>x.size+1+Q8I l
theorem Qbb:∀ l,l.length≤Q8I l
 | []=>Nat.le_refl _
 | x :: l=>by have:=Qbb l; simp only [Q8I,List.length_cons]; omega
theorem Q9u:∀ l,Q2r l≤2 * Q8I l
 | []=>Nat.le_refl _
 | x :: l=>by have:=Q9u l; simp only [Q8I,Q2r]; omega
section
variable {H:Type}
theorem Q9v (s:ByteArray):Rows.uptoBulk (DataW.lit (H:=H) (.string s.data.toList))=s.size+1:=by
 simp only [Rows.uptoBulk]
 rw [Array.length_toList]
 rfl
theorem Qbc:∀ l:List ByteArray,Rows.uptoBulkAll (l.map fun s=>DataW.lit (H:=H) (.string s.data.toList))=Q8I l
 | []=>by simp [Rows.uptoBulkAll,Q8I]
 | x :: l=>by
  rw [List.map_cons]
  simp only [Rows.uptoBulkAll]
  rw [Qbc l,Q9v]
  rfl
variable {enc:TypeId × Value→H} {W:World}
theorem Qkw {fuel:Nat} {v:Value} {x:DataW H × List MemPlace} (h:DataW.trod enc Tryz.prog W 0 (fun _=>true) true fuel 34 [v]=some x) :
  ∃ (a:Option Addr) (l:List ByteArray) (c:Nat),v=.slice a l.length c∧l.length≤c∧RowAt W W.heap.size a (stC l)∧Q8I l≤Rows.uptoBulk x.1:=by
 rcases open_strs Tryz.underlying34 Tryz.underlying9 (by kernel_rfl) h with ⟨h0,_⟩ | ⟨a,len,cap,m,Sx,hc,_,hl,hm,hmm,rfl,hcell⟩
 ·simp only [List.cons.injEq,and_true] at h0
  exact ⟨none,[],0,h0,Nat.le_refl _,fun hx=>absurd rfl hx,Nat.zero_le _⟩
 ·simp only [List.cons.injEq,and_true] at hc
  simp only [if_true] at hmm
  subst hmm
  have hll:((List.range len).map Sx).length=len:=by simp
  refine ⟨some a,(List.range len).map Sx,m,by rw [hll]; exact hc,by rw [hll]; exact hl,?_,?_⟩
  ·intro hne
   have hpos:0 < len:=by
    rcases Nat.eq_zero_or_pos len with h0 | h0
    ·subst h0; exact absurd rfl hne
    ·exact h0
   obtain ⟨b,o,spot⟩:=a
   have hspot:spot=none:=by simpa [Addr.add] using World.cell?_spot (hcell 0 (by omega)).1
   subst hspot
   have e0:=(hcell 0 (by omega)).1
   rw [Q7s] at e0
   refine ⟨b,o,rfl,QbX e0,fun j u hu=>?_⟩
   have hj:j < len:=by
    have:=(List.getElem?_eq_some_iff.1 hu).1
    rw [Q4j,hll] at this
    exact this
   have e:=(hcell j (by omega)).1
   rw [Q7s] at e
   rw [Qfd (by rw [hll]; exact hj)] at hu
   rw [e,←hu]
   simp
  ·have e:=Qbc (H:=H) ((List.range len).map Sx)
   rw [List.map_map] at e
   simp only [Rows.uptoBulk]
   have e2:(List.range len).map (fun i=>DataW.lit (H:=H) (.string (Sx i).data.toList))=(List.range len).map ((fun s=>DataW.lit (H:=H) (.string s.data.toList)) ∘ Sx):=rfl
   rw [e2,e]
   omega
end
end Go.Proofs.YtdhobdmhnocbgabGreatDoor
