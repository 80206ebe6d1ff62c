import Derived.Test.YtdhobdmhnocbgabGreatDoorSWellY
import Derived.Test.YtdhobdmhnocbgabGreatDoorSRecsW
import Derived.Test.YtdhobdmhnocbgabGreatDoorSLawF
import Derived.Laws.CopyOwn
import Derived.Test.YtdhobdmhnocbgabGreatDoorSZwG
import Derived.Test.YtdhobdmhnocbgabGreatDoorRows
import Derived.ProofKit
import Derived.JoinedCond
import Derived.Deep.Slices
namespace Go.Proofs.YtdhobdmhnocbgabGreatDoor
open Go.RowKit Zr
section
variable {P:Program}
theorem Q35 (w:World) (dT sT ty elem:TypeId) (i:TypeInfo) (g dLen dCap:Nat) (sp:Option Addr) (sLen sCap:Nat) (cur:Array Value) (t:TypeId) (cs:List Value)
  (hu:P.underlying dT=some (.slice elem)) (hi:P.info? elem=some i) (hg:w.heap[g]? = some (.cells cur t (0,0))) (hl:cs.length=sLen * i.size) (hle:sLen≤dLen)
  (hsrc:cs≠[]→∃ a,sp=some a∧∀ j v,cs[j]? = some v→w.cell? (a.add j)=some v) (hfit:cs.length≤cur.size) (h1:∀ v∈cs,v.oneCell'=true) :
  (Builtin.copy_ #[dT,sT] ty #[.slice (some ⟨g,0,none⟩) dLen dCap,.slice sp sLen sCap]).run P w=.ok (goInt sLen) (w.setRow g (cs++cur.toList.drop cs.length).toArray):=by
 have hst:=run_storeCells_at P g 0 t cs 0 cur w hg (by simpa using hfit) h1
 simp only [Nat.add_zero,Nat.zero_add,List.take_zero,List.nil_append] at hst
 have hmin:Nat.min sLen dLen=sLen:=Nat.min_eq_left hle
 have hfc:(Builtin.firstCells i.size sLen (.slice sp sLen sCap)).run P w=.ok cs.toArray w:=by
  by_cases c:cs=[]
  ·subst c
   have h0:sLen * i.size=0:=by simpa using hl.symm
   cases sp with
   | none=>exact run_firstCells_none w i.size sLen sLen sCap
   | some a=>exact run_firstCells_some w i.size sLen a sLen sCap [] hl (fun j v h=>by simp at h)
  ·obtain ⟨a,rfl,ha⟩:=hsrc c
   exact run_firstCells_some w i.size sLen a sLen sCap cs hl ha
 simp [Builtin.copy_,run_underlying hu,Builtin.lenOf,sizeOf,typeInfo,hi,hmin,hfc,hst]
end
theorem Q7S (l:List RI):(rcI l).length=l.length * 5:=by
 induction l with
 | nil=>rfl
 | cons x l ih=>simp only [rcI,List.flatMap_cons,List.length_append,List.length_cons,List.length_nil] at ih ⊢; omega
theorem Qcb (l:List QI):(qcI l).length=l.length * 3:=by
 induction l with
 | nil=>rfl
 | cons x l ih=>simp only [qcI,List.flatMap_cons,List.length_append,List.length_cons,List.length_nil] at ih ⊢; omega
theorem QkG (l:List RI):∀ v∈rcI l,v.oneCell'=true:=by
 intro v hv
 unfold rcI at hv
 obtain ⟨x,_,hx⟩:=List.mem_flatMap.1 hv
 simp at hx
 rcases hx with rfl | rfl | rfl | rfl | rfl <;> rfl
theorem QkD (l:List QI):∀ v∈qcI l,v.oneCell'=true:=by
 intro v hv
 unfold qcI at hv
 obtain ⟨x,_,hx⟩:=List.mem_flatMap.1 hv
 simp at hx
 rcases hx with rfl | rfl | rfl <;> rfl
def QlW:List Value:=[.string ⟨#[]⟩,.int .i64 77,.int .i64 0,.int .i64 0,.string ⟨#[]⟩]
def QlV:List Value:=[.string ⟨#[]⟩,.int .i64 77,.int .i64 0]
def RoomR (w:World) (N:Nat) (v:Value) (l:List RI):Prop:=∃ g,v=.slice (some ⟨g,0,none⟩) l.length (l.length+1)∧N≤g∧w.heap[g]? = some (.cells (rcI l++QlW).toArray 61 (0,0))
def RoomQ (w:World) (N:Nat) (v:Value) (l:List QI):Prop:=∃ g,v=.slice (some ⟨g,0,none⟩) l.length (l.length+1)∧N≤g∧w.heap[g]? = some (.cells (qcI l++QlV).toArray 91 (0,0))
theorem RowAt.addr {w:World} {N:Nat} {a:Option Addr} {xs:List Value} (h:RowAt w N a xs):xs≠[]→∃ ad,a=some ad∧∀ j v,xs[j]? = some v→w.cell? (ad.add j)=some v:=by
 intro hx
 obtain ⟨b,o,h1,_,h3⟩:=h hx
 refine ⟨⟨b,o,none⟩,h1,fun j v hv=>?_⟩
 have hadd:(⟨b,o,none⟩:Addr).add j=⟨b,o+j,none⟩:=by unfold Addr.add; split <;> simp_all
 rw [hadd]
 exact h3 j v hv
theorem Q6y (z:Array Value) (n k:Nat) (hk:z.size=k) (hp:0 < k):(madeCells z ((n+1) * k)).toList.drop (n * k)=z.toList:=by
 subst hk
 apply List.ext_getElem?
 intro i
 rw [List.getElem?_drop,Array.getElem?_toList,Array.getElem?_toList]
 unfold madeCells
 by_cases c:i < z.size
 ·have h1:n * z.size+i < (n+1) * z.size:=by rw [Nat.add_mul,Nat.one_mul]; omega
  have h2:(n * z.size+i) % z.size=i:=by rw [Nat.mul_comm,Nat.mul_add_mod]; exact Nat.mod_eq_of_lt c
  simp [h1,h2,c]
 ·have h1:¬ (n * z.size+i < (n+1) * z.size):=by rw [Nat.add_mul,Nat.one_mul]; omega
  simp [h1,c]
theorem Q54 {w:World} {base g:Nat} {e:TypeId} {size n:Nat} {xs:List Value} (h:w.ownsRow base e size (.slice (some ⟨g,0,none⟩) n n) n xs):w.heap[g]? = some (.cells xs.toArray e (0,0)):=by
 rcases h.2 with ⟨h1,_⟩ | ⟨g',cap,cur,h1,h2,h3,h4,h5,h6,h7⟩
 ·cases h1
 ·cases h1
  have e1:cur.toList=xs:=by rw [←h7,List.take_of_length_le]; rw [Array.length_toList,h6]; exact Nat.le_refl _
  rw [h3,←e1]
theorem QdI (pre:List Value) (x0 x1 v:Value) (r:List Value) (n:Nat) (hn:pre.length=n):((pre++x0 :: x1 :: r).toArray).setIfInBounds (n+1) v=(pre++x0 :: v :: r).toArray:=by
 subst hn
 apply Array.ext'
 simp
theorem Q97 (pre:List Value) (x0 x1:Value) (r:List Value) (n:Nat) (hn:pre.length=n):((pre++x0 :: x1 :: r).toArray)[n+1]? = some x1:=by
 subst hn
 simp
set_option maxRecDepth 100000 in
set_option maxHeartbeats 1000000 in
theorem Q2Y (l:List RI) (a:Option Addr) (c N:Nat) (w:World) (hrow:RowAt w N a (rcI l)) (hN:N≤w.heap.size) (hn:l.length * 56≤140737488351232) :
  Calls Tryz.prog 6 #[.slice a l.length c] w fun e w'=>(∃ v,e=.returned v∧RoomR w' w.heap.size v l)∧Below w.heap.size w w':=by
 obtain ⟨i0,hi,hz0,hz1,hz2⟩:=info_parts Tryz.info61
 have Hi:=Qa hi
 have Hz0:=Qa hz0
 have Hz1:=Qa hz1
 have Hz2:=Qa hz2
 have HRow:=Qa (fun W (hb:Below N w W)=>hrow.below hb)
 clear hi hz0 hz1 hz2 hrow
 obtain ⟨n,hln⟩:∃ n,l.length=n:=⟨_,rfl⟩
 rw [hln] at hn ⊢
 have hcl:=Q7S l
 rw [hln] at hcl
 have HCl:=Qa hcl
 have HLn:=Qa hln
 clear hcl hln
 go_enter Tryz.func6,Tryz.ntmps6
 have hmt:=Q6y #[.string ⟨#[]⟩,.int .i64 0,.int .i64 0,.int .i64 0,.string ⟨#[]⟩] n 5 rfl (by decide)
 have hms:(madeCells #[.string ⟨#[]⟩,.int .i64 0,.int .i64 0,.int .i64 0,.string ⟨#[]⟩] ((n+1) * 5)).size=(n+1) * 5:=size_madeCells _ _
 have HMt:=Qa hmt
 have HMs:=Qa hms
 have HOne:=Qa (QkG l)
 obtain ⟨g,hg⟩:∃ g,w.heap.size=g:=⟨_,rfl⟩
 clear hmt hms
 go_wp2_with (at_make; refine wpList_make_full _ rfl _ _ 27 rfl w.heap.size 61 i0 (.agg #[.string ⟨#[]⟩,.int .i64 0,.int .i64 0,.int .i64 0,.string ⟨#[]⟩]) 5 Tryz.underlying27 (Q6 Hi) (Q6 Hz0) (Q6 Hz1) .i64 .i64 ((n:Int)+1) ((n:Int)+1) (n+1) (by rfl) (by rfl) (by omega) (by omega) (by rw [Q6 Hz2]; omega) (by unfold maxLen; omega) (Nat.le_refl _) ?_; intro w1 hown1 hgrow1; have hg1:=Q54 hown1; rw [hg,Array.toArray_toList] at hg1; have HG1:Hid (w1.heap[g]? = some (.cells (madeCells #[.string ⟨#[]⟩,.int .i64 0,.int .i64 0,.int .i64 0,.string ⟨#[]⟩] ((n+1) * 5)) 61 (0,0))):=hg1; have hB1:Below w.heap.size w w1:=⟨hgrow1.os,hgrow1.tape,hgrow1.output,hgrow1.size,fun k hk=>hgrow1.block k hk (by simp)⟩; clear hown1 hgrow1 hg1; rw [hg])
 have hfit:(rcI l).length≤(madeCells #[.string ⟨#[]⟩,.int .i64 0,.int .i64 0,.int .i64 0,.string ⟨#[]⟩] ((n+1) * 5)).size:=by rw [Q6 HCl,Q6 HMs]; omega
 have hlen5:(rcI l).length=n * i0.size:=by rw [Q6 Hz1]; exact Q6 HCl
 obtain ⟨w2,hw2⟩:∃ w2,w1.setRow g (rcI l++(madeCells #[.string ⟨#[]⟩,.int .i64 0,.int .i64 0,.int .i64 0,.string ⟨#[]⟩] ((n+1) * 5)).toList.drop (rcI l).length).toArray=w2:=⟨_,rfl⟩
 have hg2:=setRow_heap w1 g _ (rcI l++(madeCells #[.string ⟨#[]⟩,.int .i64 0,.int .i64 0,.int .i64 0,.string ⟨#[]⟩] ((n+1) * 5)).toList.drop (rcI l).length).toArray 61 _ (Q6 HG1)
 have hB2:=below_setRow hB1 (show w.heap.size≤g by omega) (rcI l++(madeCells #[.string ⟨#[]⟩,.int .i64 0,.int .i64 0,.int .i64 0,.string ⟨#[]⟩] ((n+1) * 5)).toList.drop (rcI l).length).toArray
 rw [hw2] at hg2 hB2
 rw [Q35 w1 27 27 3 61 i0 g (n+1) (n+1) a n c _ 61 (rcI l) Tryz.underlying27 (Q6 Hi) (Q6 HG1) hlen5 (by omega) (Q6 HRow _ (hB1.mono hN)).addr hfit (Q6 HOne),hw2]
 have hg3:w2.heap[g]? = some (.cells (rcI l++([Value.string ⟨#[]⟩,Value.int .i64 0,Value.int .i64 0,Value.int .i64 0,Value.string ⟨#[]⟩]:List Value)).toArray 61 (0,0)):=by
  rw [hg2,Q6 HCl,Q6 HMt]
 have cc:=(Qc hg3 (n * 5+1)).trans (Q97 _ _ _ _ _ (Q6 HCl))
 have zz:=Qd hg3 (n * 5+1)
 have HG3:=Qa hg3
 clear hg2 hg3 hfit hlen5 hB1 hw2
 go_wp2_with fail
 go_ret
 refine ⟨⟨_,rfl,g,by rw [Q6 HLn]; rfl,by omega,?_⟩,hB2.setCell (show w.heap.size≤g by omega) _⟩
 have hfin:=Qo (Q6 HG3) (n * 5+1) (.int .i64 77)
 rw [QdI _ _ _ _ _ _ (Q6 HCl)] at hfin
 exact hfin
set_option maxRecDepth 100000 in
set_option maxHeartbeats 1000000 in
theorem Q6J (l:List QI) (a a':Option Addr) (c c' N N':Nat) (w:World) (h1:RowAt w N a (qcI l)) (h2:RowAt w N' a' (qcI l)) (hn:l.length≤140737488355328) :
  Calls Tryz.prog 46 #[.slice a l.length c,.slice a' l.length c'] w fun e w'=>e=.returned (.bool true)∧∃ n,w'=w.drewN n:=by
 have H1:=Qa h1
 have H2:=Qa h2
 clear h1 h2
 have hnn:((l.length:Int) != (l.length:Int))=false:=by simp
 go_enter Tryz.func46,Tryz.ntmps46
 go_wp2_with fail
 go_loopw [5] (fun i w'=>∃ j m:Nat,j≤l.length∧i=.int .i64 j∧w'=w.drewN m) (fun i _=>l.length - (intOf i).toNat)
 case atStart=>exact ⟨0,0,Nat.zero_le _,rfl,rfl⟩
 case round =>
  obtain ⟨j,m,hj,rfl,rfl⟩:=hrel
  by_cases cj:j < l.length
  ·obtain ⟨b,o,rfl,_,x0,x1,x2⟩:=Q6T (Q6 H1) j cj
   obtain ⟨b',o',rfl,_,y0,y1,y2⟩:=Q6T (Q6 H2) j cj
   generalize l[j].name=nm at *
   generalize l[j].ty=ty at *
   generalize l[j].cl=cl at *
   go_wp2_with fail
   go_quiet (fail)
   go_wp2_with fail
   exact ⟨⟨j+1,m+nq,by omega,by go_num,rfl⟩,by simp [intOf]; omega⟩
  ·go_wp2_with fail
   go_ret
   exact ⟨rfl,m,rfl⟩
set_option maxRecDepth 100000 in
set_option maxHeartbeats 1000000 in
theorem Q1E (l:List RI) (a a':Option Addr) (c c' N N':Nat) (w:World) (h1:RowAt w N a (rcI l)) (h2:RowAt w N' a' (rcI l)) (hn:l.length≤140737488355328) :
  Calls Tryz.prog 8 #[.slice a l.length c,.slice a' l.length c'] w fun e w'=>e=.returned (.bool true)∧∃ n,w'=w.drewN n:=by
 have H1:=Qa h1
 have H2:=Qa h2
 clear h1 h2
 have hnn:((l.length:Int) != (l.length:Int))=false:=by simp
 go_enter Tryz.func8,Tryz.ntmps8
 go_wp2_with fail
 go_loopw [5] (fun i w'=>∃ j m:Nat,j≤l.length∧i=.int .i64 j∧w'=w.drewN m) (fun i _=>l.length - (intOf i).toNat)
 case atStart=>exact ⟨0,0,Nat.zero_le _,rfl,rfl⟩
 case round =>
  obtain ⟨j,m,hj,rfl,rfl⟩:=hrel
  by_cases cj:j < l.length
  ·obtain ⟨b,o,rfl,_,x0,x1,x2,x3,x4⟩:=Q2R (Q6 H1) j cj
   obtain ⟨b',o',rfl,_,y0,y1,y2,y3,y4⟩:=Q2R (Q6 H2) j cj
   generalize l[j].name=nm at *
   generalize l[j].ty=ty at *
   generalize l[j].cl=cl at *
   generalize l[j].ttl=tl at *
   generalize l[j].data=dt at *
   go_wp2_with fail
   go_quiet (fail)
   go_wp2_with fail
   exact ⟨⟨j+1,m+nq,by omega,by go_num,rfl⟩,by simp [intOf]; omega⟩
  ·go_wp2_with fail
   go_ret
   exact ⟨rfl,m,rfl⟩
def Qgg (m:MI):Prop:=m.q.length * 32≤140737488351232∧m.a.length * 56≤140737488351232∧m.u.length * 56≤140737488351232∧m.x.length * 56≤140737488351232
set_option maxRecDepth 100000 in
set_option maxHeartbeats 1000000 in
theorem Q7W (m:MI) (v v':Value) (N N':Nat) (w:World) (h1:MsgAt w N v m) (h2:MsgAt w N' v' m) (hl:Qgg m) (hN:N≤w.heap.size) (hN':N'≤w.heap.size) :
  Calls Tryz.prog 21 #[v,v'] w fun e w'=>e=.returned (.bool true)∧Below w.heap.size w w':=by
 obtain ⟨a1,c1,a2,c2,a3,c3,a4,c4,rfl,o1,o2,o3,o4,_⟩:=h1
 obtain ⟨b1,d1,b2,d2,b3,d3,b4,d4,rfl,r1,r2,r3,r4,_⟩:=h2
 obtain ⟨s1,s2,s3,s4⟩:=hl
 obtain ⟨id,fl,q,a,u,x⟩:=m
 simp only at *
 have hb:∀ A B n,Below w.heap.size w (((w.alloc A).alloc B).drewN n):=fun A B n=>Q3q (((Below.refl _ _).alloc (Nat.le_refl _) _).alloc (by simp) _) n
 have key1:=fun W (h:∃ A B n,W=((w.alloc A).alloc B).drewN n)=>Q6J q a1 b1 c1 d1 N N' W (by obtain ⟨A,B,n,rfl⟩:=h; exact o1.below ((hb A B n).mono hN)) (by obtain ⟨A,B,n,rfl⟩:=h; exact r1.below ((hb A B n).mono hN')) (by omega)
 have key2:=fun W (h:∃ A B n,W=((w.alloc A).alloc B).drewN n)=>Q1E a a2 b2 c2 d2 N N' W (by obtain ⟨A,B,n,rfl⟩:=h; exact o2.below ((hb A B n).mono hN)) (by obtain ⟨A,B,n,rfl⟩:=h; exact r2.below ((hb A B n).mono hN')) (by omega)
 have key3:=fun W (h:∃ A B n,W=((w.alloc A).alloc B).drewN n)=>Q1E u a3 b3 c3 d3 N N' W (by obtain ⟨A,B,n,rfl⟩:=h; exact o3.below ((hb A B n).mono hN)) (by obtain ⟨A,B,n,rfl⟩:=h; exact r3.below ((hb A B n).mono hN')) (by omega)
 have key4:=fun W (h:∃ A B n,W=((w.alloc A).alloc B).drewN n)=>Q1E x a4 b4 c4 d4 N N' W (by obtain ⟨A,B,n,rfl⟩:=h; exact o4.below ((hb A B n).mono hN)) (by obtain ⟨A,B,n,rfl⟩:=h; exact r4.below ((hb A B n).mono hN')) (by omega)
 have K1:=Qa key1
 have K2:=Qa key2
 have K3:=Qa key3
 have K4:=Qa key4
 have HB:=Qa hb
 clear key1 key2 key3 key4 o1 o2 o3 o4 r1 r2 r3 r4 hb
 have hii:(id == id)=true:=by simp
 have hff:(fl == fl)=true:=by simp
 go_enter Tryz.func21,Tryz.ntmps21
 go_wp2_with fail
 refine (Q6 K1 _ ⟨_,_,0,rfl⟩).mono ?_
 rintro e w1 ⟨rfl,n1,rfl⟩
 go_wp2_with fail
 refine (Q6 K2 _ ⟨_,_,n1,rfl⟩).mono ?_
 rintro e w1 ⟨rfl,n2,rfl⟩
 go_wp2_with fail
 refine (Q6 K3 _ ⟨_,_,n1+n2,rfl⟩).mono ?_
 rintro e w1 ⟨rfl,n3,rfl⟩
 go_wp2_with fail
 refine (Q6 K4 _ ⟨_,_,n1+n2+n3,rfl⟩).mono ?_
 rintro e w1 ⟨rfl,n4,rfl⟩
 go_wp2_with fail
 go_ret
 exact ⟨rfl,Q6 HB _ _ _⟩
theorem RoomR.row {w:World} {N:Nat} {v:Value} {l:List RI} (h:RoomR w N v l):∃ g,v=.slice (some ⟨g,0,none⟩) l.length (l.length+1)∧N≤g∧g < w.heap.size∧RowAt w w.heap.size (some ⟨g,0,none⟩) (rcI l):=by
 obtain ⟨g,h1,h2,h3⟩:=h
 refine ⟨g,h1,h2,Qb h3,fun _=>⟨g,0,rfl,Qb h3,fun j u hu=>?_⟩⟩
 rw [Nat.zero_add,Qc h3]
 have hj:=(List.getElem?_eq_some_iff.1 hu).1
 rw [List.getElem?_toArray,List.getElem?_append_left hj]
 exact hu
theorem RoomQ.row {w:World} {N:Nat} {v:Value} {l:List QI} (h:RoomQ w N v l):∃ g,v=.slice (some ⟨g,0,none⟩) l.length (l.length+1)∧N≤g∧g < w.heap.size∧RowAt w w.heap.size (some ⟨g,0,none⟩) (qcI l):=by
 obtain ⟨g,h1,h2,h3⟩:=h
 refine ⟨g,h1,h2,Qb h3,fun _=>⟨g,0,rfl,Qb h3,fun j u hu=>?_⟩⟩
 rw [Nat.zero_add,Qc h3]
 have hj:=(List.getElem?_eq_some_iff.1 hu).1
 rw [List.getElem?_toArray,List.getElem?_append_left hj]
 exact hu
theorem RoomR.below {w w':World} {N:Nat} {v:Value} {l:List RI} (h:RoomR w N v l) (hb:Below w.heap.size w w'):RoomR w' N v l:=by
 obtain ⟨g,h1,h2,h3⟩:=h
 exact ⟨g,h1,h2,(hb.block g (Qb h3)).trans h3⟩
theorem RoomQ.below {w w':World} {N:Nat} {v:Value} {l:List QI} (h:RoomQ w N v l) (hb:Below w.heap.size w w'):RoomQ w' N v l:=by
 obtain ⟨g,h1,h2,h3⟩:=h
 exact ⟨g,h1,h2,(hb.block g (Qb h3)).trans h3⟩
set_option maxRecDepth 100000 in
set_option maxHeartbeats 1000000 in
theorem Q3C (l:List RI) (v:Value) (a:Option Addr) (c N N':Nat) (w:World) (h:RoomR w N v l) (h2:RowAt w N' a (rcI l)) (hn:l.length * 56≤140737488351232) :
  Calls Tryz.prog 53 #[v,.slice a l.length c] w fun e w'=>e=.returned (.bool true)∧Below w.heap.size w w':=by
 obtain ⟨g,rfl,_,hlt,hrow⟩:=h.row
 obtain ⟨g',e1,_,hg⟩:=h
 cases e1
 have Key:=Qa (Q1E l (some ⟨g,0,none⟩) a (l.length+1) c w.heap.size N' w hrow h2 (by omega))
 have hc:=(Qc hg (l.length * 5+1)).trans (Q97 _ _ _ _ _ (Q7S l))
 clear hrow h2 hg
 have h77:((77:Int) == 77)=true:=rfl
 go_enter Tryz.func53,Tryz.ntmps53
 go_wp2_with fail
 refine (Q6 Key).mono ?_
 rintro e w1 ⟨rfl,n1,rfl⟩
 have hcc:(w.drewN n1).cell? ⟨g,l.length * 5+1,none⟩=some (.int .i64 77):=hc
 generalize l.length=n at *
 go_wp2_with fail
 go_ret
 exact ⟨rfl,Q3q (Below.refl _ _) _⟩
def RoomE (w:World) (N:Nat) (v:Value) (l:List Ev):Prop :=
 ∃ g,v=.slice (some ⟨g,0,none⟩) l.length (l.length+1)∧N≤g∧w.heap[g]? = some (.cells (evC l++([Value.int .i64 77,Value.string ⟨#[]⟩,Value.int .i64 0,Value.string ⟨#[]⟩,Value.int .i64 0,Value.string ⟨#[]⟩,Value.string ⟨#[]⟩]:List Value)).toArray 107 (0,0))
theorem Qhj (pre:List Value) (x0 v:Value) (r:List Value) (n:Nat) (hn:pre.length=n):((pre++x0 :: r).toArray).setIfInBounds n v=(pre++v :: r).toArray:=by
 subst hn
 apply Array.ext'
 simp
theorem QcC (pre:List Value) (x0:Value) (r:List Value) (n:Nat) (hn:pre.length=n):((pre++x0 :: r).toArray)[n]? = some x0:=by
 subst hn
 simp
set_option maxRecDepth 100000 in
set_option maxHeartbeats 1000000 in
theorem Q5Q (l:List Ev) (a:Option Addr) (c N:Nat) (w:World) (hrow:RowAt w N a (evC l)) (hN:N≤w.heap.size) (hn:l.length≤16777216) :
  Calls Tryz.prog 29 #[.slice a l.length c] w fun e w'=>(∃ v,e=.returned v∧RoomE w' w.heap.size v l)∧Below w.heap.size w w':=by
 obtain ⟨i0,hi,hz0,hz1,hz2⟩:=info_parts Tryz.info107
 have Hi:=Qa hi
 have Hz0:=Qa hz0
 have Hz1:=Qa hz1
 have Hz2:=Qa hz2
 have HRow:=Qa (fun W (hb:Below N w W)=>hrow.below hb)
 clear hi hz0 hz1 hz2 hrow
 obtain ⟨n,hln⟩:∃ n,l.length=n:=⟨_,rfl⟩
 rw [hln] at hn ⊢
 have hcl:=Q6s l
 rw [hln] at hcl
 have HCl:=Qa hcl
 have HLn:=Qa hln
 clear hcl hln
 go_enter Tryz.func29,Tryz.ntmps29
 have hmt:=Q6y #[.int .i64 0,.string ⟨#[]⟩,.int .i64 0,.string ⟨#[]⟩,.int .i64 0,.string ⟨#[]⟩,.string ⟨#[]⟩] n 7 rfl (by decide)
 have hms:(madeCells #[.int .i64 0,.string ⟨#[]⟩,.int .i64 0,.string ⟨#[]⟩,.int .i64 0,.string ⟨#[]⟩,.string ⟨#[]⟩] ((n+1) * 7)).size=(n+1) * 7:=size_madeCells _ _
 have HMt:=Qa hmt
 have HMs:=Qa hms
 have HOne:=Qa (Qk9 l)
 obtain ⟨g,hg⟩:∃ g,w.heap.size=g:=⟨_,rfl⟩
 clear hmt hms
 go_wp2_with (at_make; refine wpList_make_full _ rfl _ _ 33 rfl w.heap.size 107 i0 (.agg #[.int .i64 0,.string ⟨#[]⟩,.int .i64 0,.string ⟨#[]⟩,.int .i64 0,.string ⟨#[]⟩,.string ⟨#[]⟩]) 7 Tryz.underlying33 (Q6 Hi) (Q6 Hz0) (Q6 Hz1) .i64 .i64 ((n:Int)+1) ((n:Int)+1) (n+1) (by rfl) (by rfl) (by omega) (by omega) (by rw [Q6 Hz2]; omega) (by unfold maxLen; omega) (Nat.le_refl _) ?_; intro w1 hown1 hgrow1; have hg1:=Q54 hown1; rw [hg,Array.toArray_toList] at hg1; have HG1:Hid (w1.heap[g]? = some (.cells (madeCells #[.int .i64 0,.string ⟨#[]⟩,.int .i64 0,.string ⟨#[]⟩,.int .i64 0,.string ⟨#[]⟩,.string ⟨#[]⟩] ((n+1) * 7)) 107 (0,0))):=hg1; have hB1:Below w.heap.size w w1:=⟨hgrow1.os,hgrow1.tape,hgrow1.output,hgrow1.size,fun k hk=>hgrow1.block k hk (by simp)⟩; clear hown1 hgrow1 hg1; rw [hg])
 have hfit:(evC l).length≤(madeCells #[.int .i64 0,.string ⟨#[]⟩,.int .i64 0,.string ⟨#[]⟩,.int .i64 0,.string ⟨#[]⟩,.string ⟨#[]⟩] ((n+1) * 7)).size:=by rw [Q6 HCl,Q6 HMs]; omega
 have hlen5:(evC l).length=n * i0.size:=by rw [Q6 Hz1]; exact Q6 HCl
 obtain ⟨w2,hw2⟩:∃ w2,w1.setRow g (evC l++(madeCells #[.int .i64 0,.string ⟨#[]⟩,.int .i64 0,.string ⟨#[]⟩,.int .i64 0,.string ⟨#[]⟩,.string ⟨#[]⟩] ((n+1) * 7)).toList.drop (evC l).length).toArray=w2:=⟨_,rfl⟩
 have hg2:=setRow_heap w1 g _ (evC l++(madeCells #[.int .i64 0,.string ⟨#[]⟩,.int .i64 0,.string ⟨#[]⟩,.int .i64 0,.string ⟨#[]⟩,.string ⟨#[]⟩] ((n+1) * 7)).toList.drop (evC l).length).toArray 107 _ (Q6 HG1)
 have hB2:=below_setRow hB1 (show w.heap.size≤g by omega) (evC l++(madeCells #[.int .i64 0,.string ⟨#[]⟩,.int .i64 0,.string ⟨#[]⟩,.int .i64 0,.string ⟨#[]⟩,.string ⟨#[]⟩] ((n+1) * 7)).toList.drop (evC l).length).toArray
 rw [hw2] at hg2 hB2
 rw [Q35 w1 33 33 3 107 i0 g (n+1) (n+1) a n c _ 107 (evC l) Tryz.underlying33 (Q6 Hi) (Q6 HG1) hlen5 (by omega) (Q6 HRow _ (hB1.mono hN)).addr hfit (Q6 HOne),hw2]
 have hg3:w2.heap[g]? = some (.cells (evC l++([Value.int .i64 0,Value.string ⟨#[]⟩,Value.int .i64 0,Value.string ⟨#[]⟩,Value.int .i64 0,Value.string ⟨#[]⟩,Value.string ⟨#[]⟩]:List Value)).toArray 107 (0,0)):=by
  rw [hg2,Q6 HCl,Q6 HMt]
 have cc:=(Qc hg3 (n * 7)).trans (QcC _ _ _ _ (Q6 HCl))
 have zz:=Qd hg3 (n * 7)
 have HG3:=Qa hg3
 clear hg2 hg3 hfit hlen5 hB1 hw2
 go_wp2_with fail
 go_ret
 refine ⟨⟨_,rfl,g,by rw [Q6 HLn]; rfl,by omega,?_⟩,hB2.setCell (show w.heap.size≤g by omega) _⟩
 have hfin:=Qo (Q6 HG3) (n * 7) (.int .i64 77)
 rw [Qhj _ _ _ _ _ (Q6 HCl)] at hfin
 exact hfin
theorem RoomE.row {w:World} {N:Nat} {v:Value} {l:List Ev} (h:RoomE w N v l):∃ g,v=.slice (some ⟨g,0,none⟩) l.length (l.length+1)∧N≤g∧g < w.heap.size∧RowAt w w.heap.size (some ⟨g,0,none⟩) (evC l):=by
 obtain ⟨g,h1,h2,h3⟩:=h
 refine ⟨g,h1,h2,Qb h3,fun _=>⟨g,0,rfl,Qb h3,fun j u hu=>?_⟩⟩
 rw [Nat.zero_add,Qc h3]
 have hj:=(List.getElem?_eq_some_iff.1 hu).1
 rw [List.getElem?_toArray,List.getElem?_append_left hj]
 exact hu
theorem RoomE.below {w w':World} {N:Nat} {v:Value} {l:List Ev} (h:RoomE w N v l) (hb:Below w.heap.size w w'):RoomE w' N v l:=by
 obtain ⟨g,h1,h2,h3⟩:=h
 exact ⟨g,h1,h2,(hb.block g (Qb h3)).trans h3⟩
set_option maxRecDepth 100000 in
set_option maxHeartbeats 1000000 in
theorem Q94 (l:List Ev) (a a':Option Addr) (c c' N N':Nat) (w:World) (h1:RowAt w N a (evC l)) (h2:RowAt w N' a' (evC l)) (hn:l.length≤16777216) :
  Calls Tryz.prog 64 #[.slice a l.length c,.slice a' l.length c'] w fun e w'=>e=.returned (.bool true)∧∃ n,w'=w.drewN n:=by
 have H1:=Qa h1
 have H2:=Qa h2
 clear h1 h2
 have hnn:((l.length:Int) != (l.length:Int))=false:=by simp
 go_enter Tryz.func64,Tryz.ntmps64
 go_wp2_with fail
 go_loopw [5] (fun i w'=>∃ j m:Nat,j≤l.length∧i=.int .i64 j∧w'=w.drewN m) (fun i _=>l.length - (intOf i).toNat)
 case atStart=>exact ⟨0,0,Nat.zero_le _,rfl,rfl⟩
 case round =>
  obtain ⟨j,m,hj,rfl,rfl⟩:=hrel
  by_cases cj:j < l.length
  ·obtain ⟨b,o,rfl,_,x0,x1,x2,x3,x4,x5,x6⟩:=Q2K (Q6 H1) j cj
   obtain ⟨b',o',rfl,_,y0,y1,y2,y3,y4,y5,y6⟩:=Q2K (Q6 H2) j cj
   generalize l[j]=k at *
   obtain ⟨kd,nd,ic,ad,pt,tx,al⟩:=k
   simp only at x0 x1 x2 x3 x4 x5 x6 y0 y1 y2 y3 y4 y5 y6
   go_wp2_with fail
   go_quiet (fail)
   go_wp2_with fail
   exact ⟨⟨j+1,m+nq,by omega,by go_num,rfl⟩,by simp [intOf]; omega⟩
  ·go_wp2_with fail
   go_ret
   exact ⟨rfl,m,rfl⟩
set_option maxRecDepth 100000 in
set_option maxHeartbeats 1000000 in
theorem Q5d (l:List Ev) (v:Value) (a:Option Addr) (c N N':Nat) (w:World) (h:RoomE w N v l) (h2:RowAt w N' a (evC l)) (hn:l.length≤16777216) :
  Calls Tryz.prog 32 #[v,.slice a l.length c] w fun e w'=>e=.returned (.bool true)∧Below w.heap.size w w':=by
 obtain ⟨g,rfl,_,hlt,hrow⟩:=h.row
 obtain ⟨g',e1,_,hg⟩:=h
 cases e1
 have Key:=Qa (Q94 l (some ⟨g,0,none⟩) a (l.length+1) c w.heap.size N' w hrow h2 hn)
 have hc:=(Qc hg (l.length * 7)).trans (QcC _ _ _ _ (Q6s l))
 clear hrow h2 hg
 have h77:((77:Int) == 77)=true:=rfl
 go_enter Tryz.func32,Tryz.ntmps32
 go_wp2_with fail
 refine (Q6 Key).mono ?_
 rintro e w1 ⟨rfl,n1,rfl⟩
 have hcc:(w.drewN n1).cell? ⟨g,l.length * 7,none⟩=some (.int .i64 77):=hc
 generalize l.length=n at *
 go_wp2_with fail
 go_ret
 exact ⟨rfl,Q8H (Below.refl _ _) _⟩
set_option maxHeartbeats 400000 in
theorem Qha (l:List Ev) (a:Option Addr) (c N:Nat) (w:World) (hrow:RowAt w N a (evC l)) (hN:N≤w.heap.size) (hl:l.length≤16777216) (hz:Q2d l) :
  Calls Tryz.prog 30 #[.slice a l.length c] w fun e w'=>Q2u w (Q0I l) e w':=by
 have key:=QbC l a c N w hrow hN hl hz
 rw [Q3x] at key
 have Key:=Qa key
 clear key hrow hz
 go_enter Tryz.func30,Tryz.ntmps30
 go_wp2_with fail
 refine (Q6 Key).mono ?_
 rintro e w1 ⟨a1,c1,rfl,o1,b1⟩
 have H:Hid (Q2u w (Q0I l) (.returned (.slice a1 (Q0I l).length c1)) w1):=Qa ⟨a1,c1,rfl,o1,b1⟩
 clear o1 b1
 go_wp2_with fail
 go_ret
 exact Q6 H
theorem Q8V (l:List Ev):(Q0I l).length≤2+4 * l.length:=by
 have h0:=Qga l
 have h1:((upP l).flatMap Q0y).length≤2 * (upP l).length:=by have:=Q52 (upP l) (upP l).length; rw [List.take_length] at this; exact this
 have h2:(Q1Z (upP l) (upP l).length).1.length≤(upP l).length:=by
  have:∀ k,(Q1Z (upP l) k).1.length≤k:=by
   intro k
   induction k with
   | zero=>exact Nat.le_refl _
   | succ k ih =>
    show (Q37 (upP l) (Q1Z (upP l) k)).1.length≤k+1
    unfold Q37
    split
    ·omega
    ·simp only
     split
     ·omega
     ·rw [List.length_append]; simp; omega
  exact this _
 unfold Q0I
 rw [List.length_append,List.length_append,List.length_append,List.length_map]
 show 2+_+_+_≤_
 omega
set_option maxRecDepth 100000 in
set_option maxHeartbeats 1000000 in
theorem Qet (l:List Ev) (a:Option Addr) (c N:Nat) (w:World) (hrow:RowAt w N a (evC l)) (hN:N≤w.heap.size) (hl:l.length≤16777216) (hz:Q2d l) :
  Calls Tryz.prog 13 #[.slice a l.length c] w fun e w'=>∃ (a1:Option Addr) (c1:Nat),e=.returned (.tuple #[.slice a1 (Q0I l).length c1,.bool true])∧w'.ownsRow w.heap.size 61 5 (.slice a1 (Q0I l).length c1) (Q0I l).length (rcI (Q0I l))∧Below w.heap.size w w':=by
 have k1:=Q5Q l a c N w hrow hN hl
 have HRow:=Qa (fun W (h:Below N w W)=>hrow.below h)
 have hrl:=Q8V l
 have K1:=Qa k1
 have HZ:=Qa hz
 clear k1 hrow hz
 go_enter Tryz.func13,Tryz.ntmps13
 go_wp2_with fail
 refine (Q6 K1).mono ?_
 rintro e w1 ⟨⟨v,rfl,hroom⟩,b1⟩
 obtain ⟨g,rfl,_,hg,hgrow⟩:=hroom.row
 have HRoom:=Qa hroom
 have HB1:=Qa b1
 have hs1:w.heap.size≤w1.heap.size:=b1.size
 have k2:=Qha l (some ⟨g,0,none⟩) (l.length+1) w1.heap.size w1 hgrow (Nat.le_refl _) hl (Q6 HZ)
 have K2:=Qa k2
 clear hroom b1 k2 hgrow K1
 go_wp2_with fail
 refine (Q6 K2).mono ?_
 rintro e w2 ⟨a2,c2,rfl,o2,b2⟩
 have HRoom2:=Qa ((Q6 HRoom).below b2)
 have HO2:=Qa o2
 have HB2:=Qa ((Q6 HB1).trans (b2.mono hs1))
 have hs2:w.heap.size≤w2.heap.size:=Nat.le_trans hs1 b2.size
 have hs12:w1.heap.size≤w2.heap.size:=b2.size
 have k3:=Q6d l a c N w2 (Q6 HRow _ ((Q6 HB2).mono hN)) (Nat.le_trans hN hs2) hl (Q6 HZ)
 have K3:=Qa k3
 clear o2 b2 k3 K2 HRoom HB1
 go_wp2_with fail
 refine (Q6 K3).mono ?_
 rintro e w3 ⟨a3,c3,rfl,o3,b3⟩
 have HRoom3:=Qa ((Q6 HRoom2).below b3)
 have HO3:=Qa (Qk (Q6 HO2) b3)
 have HY3:=Qa o3
 have HB3:=Qa ((Q6 HB2).trans (b3.mono hs2))
 have hs3:w.heap.size≤w3.heap.size:=Nat.le_trans hs2 b3.size
 have k4:=Q5d l (.slice (some ⟨g,0,none⟩) l.length (l.length+1)) a c _ N w3 (Q6 HRoom3) (Q6 HRow _ ((Q6 HB3).mono hN)) hl
 have K4:=Qa k4
 clear o3 b3 k4 K3 HRoom2 HO2 HB2 HRoom3
 go_wp2_with fail
 refine (Q6 K4).mono ?_
 rintro e w4 ⟨rfl,b4⟩
 have HO4:=Qa (Qk (Q6 HO3) b4)
 have HY4:=Qa (Qk (Q6 HY3) b4)
 have HB4:=Qa ((Q6 HB3).trans (b4.mono hs3))
 have k5:=Q1E (Q0I l) a2 a3 c2 c3 w4.heap.size w4.heap.size w4 (Q0u (Q6 HO4)) (Q0u (Q6 HY4)) (by omega)
 have K5:=Qa k5
 clear b4 k5 K4 HO3 HY3 HB3
 generalize hRq:Q0I l=Rq at *
 go_wp2_with fail
 refine (Q6 K5).mono ?_
 rintro e w5 ⟨rfl,n5,rfl⟩
 go_wp2_with fail
 go_ret2
 rw [hRq]
 exact ⟨a2,c2,rfl,Q3e hs1 (Q6 HO4),⟨(Q6 HB4).os,(Q6 HB4).tape,(Q6 HB4).output,(Q6 HB4).size,(Q6 HB4).block⟩⟩
end Go.Proofs.YtdhobdmhnocbgabGreatDoor
namespace Go.Proofs.YtdhobdmhnocbgabGreatDoor
open Go.ChangeShapes Go.WideShapes Go.ChangeAt Go.RowKit Go.Deep Zr
theorem QjK (b o k:Nat):(Addr.mk b o none).add k=⟨b,o+k,none⟩:=by
 unfold Addr.add
 split
 ·next h=>subst h; rfl
 ·rfl
theorem QhQ {w:World} {a:Addr} {v:Value} (h:w.cell? a=some v):a.block < w.heap.size:=by
 rcases Nat.lt_or_ge a.block w.heap.size with hb | hb
 ·exact hb
 ·simp [World.cell?,hb] at h
theorem QhS:Tryz.prog.cellsOf 107=7:=by kernel_rfl
theorem QjU:Tryz.prog.cellsOf 3=1:=by kernel_rfl
theorem QjY:Tryz.prog.cellsOf 9=1:=by kernel_rfl
section
variable {H:Type} {enc:TypeId × Value→H} {W:World}
theorem Q6q (s:ByteArray):Rows.uptoBulk (DataW.lit (H:=H) (.string s.data.toList))=s.size+1:=by
 simp only [Rows.uptoBulk]
 rw [Array.length_toList]
 rfl
set_option maxRecDepth 10000 in
theorem QlB {fuel:Nat} {cs:List Value} {x:DataW H × List MemPlace} (h:DataW.trod enc Tryz.prog W 0 (fun _=>true) true fuel 107 cs=some x) :
  ∃ q:Ev,cs=ev7 q∧q.node.size+q.addr.size+q.text.size+q.alias.size+1≤Rows.uptoBulk x.1:=by
 obtain ⟨xs,n,_,rfl,hl,hxl,hf⟩:=DataW.trod_struct Tryz.underlying107 h
 rw [QhS] at hl
 obtain ⟨c0,c1,c2,c3,c4,c5,c6,rfl⟩:∃ c0 c1 c2 c3 c4 c5 c6,cs=[c0,c1,c2,c3,c4,c5,c6]:=by
  match cs,hl with
  | [c0,c1,c2,c3,c4,c5,c6],_=>exact ⟨c0,c1,c2,c3,c4,c5,c6,rfl⟩
 obtain ⟨y0,y1,y2,y3,y4,y5,y6,rfl⟩:∃ y0 y1 y2 y3 y4 y5 y6,xs=[y0,y1,y2,y3,y4,y5,y6]:=by
  match xs,hxl with
  | [y0,y1,y2,y3,y4,y5,y6],_=>exact ⟨y0,y1,y2,y3,y4,y5,y6,rfl⟩
 have g0:DataW.trod enc Tryz.prog W 0 (fun _=>true) true n 3 (([c0,c1,c2,c3,c4,c5,c6].drop 0).take (Tryz.prog.cellsOf 3))=some y0:=hf 0 _ rfl
 have g1:DataW.trod enc Tryz.prog W 0 (fun _=>true) true n 9 (([c0,c1,c2,c3,c4,c5,c6].drop 1).take (Tryz.prog.cellsOf 9))=some y1:=hf 1 _ rfl
 have g2:DataW.trod enc Tryz.prog W 0 (fun _=>true) true n 3 (([c0,c1,c2,c3,c4,c5,c6].drop 2).take (Tryz.prog.cellsOf 3))=some y2:=hf 2 _ rfl
 have g3:DataW.trod enc Tryz.prog W 0 (fun _=>true) true n 9 (([c0,c1,c2,c3,c4,c5,c6].drop 3).take (Tryz.prog.cellsOf 9))=some y3:=hf 3 _ rfl
 have g4:DataW.trod enc Tryz.prog W 0 (fun _=>true) true n 3 (([c0,c1,c2,c3,c4,c5,c6].drop 4).take (Tryz.prog.cellsOf 3))=some y4:=hf 4 _ rfl
 have g5:DataW.trod enc Tryz.prog W 0 (fun _=>true) true n 9 (([c0,c1,c2,c3,c4,c5,c6].drop 5).take (Tryz.prog.cellsOf 9))=some y5:=hf 5 _ rfl
 have g6:DataW.trod enc Tryz.prog W 0 (fun _=>true) true n 9 (([c0,c1,c2,c3,c4,c5,c6].drop 6).take (Tryz.prog.cellsOf 9))=some y6:=hf 6 _ rfl
 simp only [QjU,QjY,List.drop,List.take] at g0 g1 g2 g3 g4 g5 g6
 obtain ⟨v0,e0,rfl,_⟩:=DataW.trod_int Tryz.underlying3 g0
 obtain ⟨v1,e1,rfl,_⟩:=DataW.trod_string Tryz.underlying9 g1
 obtain ⟨v2,e2,rfl,_⟩:=DataW.trod_int Tryz.underlying3 g2
 obtain ⟨v3,e3,rfl,_⟩:=DataW.trod_string Tryz.underlying9 g3
 obtain ⟨v4,e4,rfl,_⟩:=DataW.trod_int Tryz.underlying3 g4
 obtain ⟨v5,e5,rfl,_⟩:=DataW.trod_string Tryz.underlying9 g5
 obtain ⟨v6,e6,rfl,_⟩:=DataW.trod_string Tryz.underlying9 g6
 simp only [List.cons.injEq,and_true] at e0 e1 e2 e3 e4 e5 e6
 subst e0 e1 e2 e3 e4 e5 e6
 refine ⟨⟨v0,v1,v2,v3,v4,v5,v6⟩,rfl,?_⟩
 have b1:=Q6q (H:=H) v1
 have b3:=Q6q (H:=H) v3
 have b5:=Q6q (H:=H) v5
 have b6:=Q6q (H:=H) v6
 simp only [List.map_cons,List.map_nil,Rows.uptoBulk,Rows.uptoBulkAll] at b1 b3 b5 b6 ⊢
 omega
theorem Qgu:∀ (D:Nat→DataW H) (n:Nat),(∀ i,i < n→1≤Rows.uptoBulk (D i))→n≤Rows.uptoBulkAll ((List.range n).map D)∧∀ i,i < n→Rows.uptoBulk (D i)≤Rows.uptoBulkAll ((List.range n).map D):=by
 intro D n
 have app:∀ l r:List (DataW H),Rows.uptoBulkAll (l++r)=Rows.uptoBulkAll l+Rows.uptoBulkAll r:=by
  intro l r
  induction l with
  | nil=>simp [Rows.uptoBulkAll]
  | cons x l ih=>simp only [List.cons_append,Rows.uptoBulkAll,ih]; omega
 induction n with
 | zero=>intro _; exact ⟨Nat.zero_le _,fun i hi=>by omega⟩
 | succ n ih =>
  intro h
  obtain ⟨h1,h2⟩:=ih fun i hi=>h i (by omega)
  have hn:=h n (by omega)
  rw [List.range_succ,List.map_append,app]
  simp only [List.map_cons,List.map_nil,Rows.uptoBulkAll]
  refine ⟨by omega,fun i hi=>?_⟩
  rcases Nat.lt_or_ge i n with q | q
  ·have:=h2 i q; omega
  ·have:i=n:=by omega
   subst this
   omega
theorem Qku {fuel:Nat} {v:Value} {x:DataW H × List MemPlace} (h:DataW.trod enc Tryz.prog W 0 (fun _=>true) true fuel 33 [v]=some x) (hb:Rows.uptoBulk x.1≤1048576) :
  ∃ (a:Option Addr) (l:List Ev) (c:Nat),v=.slice a l.length c∧l.length≤c∧RowAt W W.heap.size a (evC l)∧l.length≤1048576∧∀ i (h:i < l.length),l[i].node.size≤1048576∧l[i].addr.size≤1048576∧l[i].text.size≤1048576∧l[i].alias.size≤1048576:=by
 rcases open_slice Tryz.underlying33 h with ⟨h0,_⟩ | ⟨a,len,cap,m,n,D,Pl,hc,_,hl,_,hm,rfl,hel⟩
 ·simp only [List.cons.injEq,and_true] at h0
  exact ⟨none,[],0,h0,Nat.le_refl _,fun hx=>absurd rfl hx,by simp,fun i hi=>by simp at hi⟩
 ·simp only [List.cons.injEq,and_true] at hc
  simp only [if_true] at hm
  subst hm
  have hel':∀ i,i < m→∃ q:Ev,W.cells? 0 (a.add (i * 7)) 7=some (ev7 q)∧q.node.size+q.addr.size+q.text.size+q.alias.size+1≤Rows.uptoBulk (D i):=by
   intro i hi
   obtain ⟨cs',h1,h2⟩:=hel i hi
   rw [QhS] at h1
   obtain ⟨q,rfl,h3⟩:=QlB h2
   exact ⟨q,h1,h3⟩
  obtain ⟨f,hf⟩:=choose_lt hel'
  have hll:((List.range len).map f).length=len:=by simp
  simp only [Rows.uptoBulk] at hb
  obtain ⟨k1,k2⟩:=Qgu D len fun i hi=>by have:=(hf i (by omega)).2; omega
  refine ⟨some a,(List.range len).map f,m,by rw [hll]; exact hc,by rw [hll]; exact hl,?_,by rw [hll]; omega,fun i hi=>?_⟩
  ·intro hne
   have hpos:0 < len:=by
    rcases Nat.eq_zero_or_pos len with h0 | h0
    ·subst h0; exact absurd rfl hne
    ·exact h0
   obtain ⟨b,o,spot⟩:=a
   have hspot:spot=none:=by
    obtain ⟨_,_,hcell⟩:=World.cells?_some (hf 0 (by omega)).1
    have:=hcell 0 (by decide)
    simpa [Addr.add] using World.cell?_spot this
   subst hspot
   have Q0W:∀ i,i < len→∀ j,j < 7→W.cell? ⟨b,o+(i * 7+j),none⟩=(evC ((List.range len).map f))[i * 7+j]?:=by
    intro i hi j hj
    obtain ⟨_,_,hcell⟩:=World.cells?_some (hf i (by omega)).1
    have e:=hcell j hj
    rw [add_add,QjK] at e
    rw [e]
    have hq:=Q4e ((List.range len).map f) i (by simpa using hi) j hj
    rw [hq]
    simp
   have hlen:(evC ((List.range len).map f)).length=len * 7:=by
    rw [Q6s,hll]
   refine ⟨b,o,rfl,?_,fun j u hu=>?_⟩
   ·have e:=Q0W 0 hpos 0 (by omega)
    rw [List.getElem?_eq_getElem (by omega)] at e
    exact QhQ e
   ·have hj:j < len * 7:=by
     rw [←hlen]
     exact (List.getElem?_eq_some_iff.1 hu).1
    have e:=Q0W (j / 7) (by omega) (j % 7) (by omega)
    rw [show j / 7 * 7+j % 7=j by omega,hu] at e
    exact e
  ·have hi':i < len:=by simpa using hi
   have:=(hf i (by omega)).2
   have h2:=k2 i hi'
   simp only [List.getElem_map,List.getElem_range]
   omega
end
end Go.Proofs.YtdhobdmhnocbgabGreatDoor
