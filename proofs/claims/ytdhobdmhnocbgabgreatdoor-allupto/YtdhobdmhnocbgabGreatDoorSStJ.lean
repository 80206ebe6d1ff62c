import Derived.Test.YtdhobdmhnocbgabGreatDoorSOpn
import Derived.Test.YtdhobdmhnocbgabGreatDoorSTxE
import Derived.Test.YtdhobdmhnocbgabGreatDoorSItoa
import Derived.Test.YtdhobdmhnocbgabGreatDoorSOnkeep
import Derived.Test.YtdhobdmhnocbgabGreatDoorSOpnE
import Derived.Test.YtdhobdmhnocbgabGreatDoorSMwJ
namespace Go.Proofs.YtdhobdmhnocbgabGreatDoor
open Go.RowKit Zr
set_option maxRecDepth 100000 in
set_option maxHeartbeats 1000000 in
theorem Qck (l:List ByteArray) (a:Option Addr) (c N:Nat) (w:World) (hrow:RowAt w N a (stC l)) (hN:N≤w.heap.size) (hl:l.length≤33554432) (hz:Q2r l≤67108864) :
  Calls Tryz.prog 56 #[.slice a l.length c] w fun r w'=>∃ s e,r=.returned (.tuple #[.string s,.int .i64 e])∧FrmIs l s e∧Below w.heap.size w w':=by
 have HRow:=Qa hrow
 have HZ:=Qa (fun j (h:j < l.length)=>Qbk l j h)
 have HZ2:=Qa (fun j=>Q7D l j)
 clear hrow
 obtain ⟨M,hM⟩:∃ M,w.heap.size=M:=⟨_,rfl⟩
 rw [hM] at hN
 have HM:=Qa hM
 have hs0:M≤w.heap.size:=by omega
 clear hM
 go_enter Tryz.func56,Tryz.ntmps56
 go_wp2_with fail
 go_loopw [4,5] (fun vs vi w'=>∃ (j:Nat) (s:ByteArray),j≤l.length∧vi=.int .i64 j∧vs=.string s∧s.size≤67108864∧Hid (s=Q2h (l.take j))∧Hid (∀ k (h:k < l.length),k < j→l[k].size≤65535)∧Hid (Below M w w')∧M≤w'.heap.size) (fun _ vi _=>l.length - (intOf vi).toNat)
 case atStart=>exact ⟨0,⟨#[]⟩,Nat.zero_le _,rfl,rfl,Nat.zero_le _,Qa rfl,Qa fun k _ hk=>by omega,Qa (Below.refl _ _),hs0⟩
 case round =>
  obtain ⟨j,s,hj,rfl,rfl,hsz,HS,HA,HB,hs⟩:=hrel
  by_cases cj:j < l.length
  ·obtain ⟨b,o,rfl,hb,x0⟩:=QdE ((Q6 HRow).below ((Q6 HB).mono hN)) j cj
   by_cases cx:65535 < l[j].size
   ·have HX:Hid (∃ x,x∈l∧65535 < x.size):=Qa ⟨_,List.getElem_mem cj,cx⟩
    generalize l[j]=x at *
    go_wp2_with fail
    go_ret2
    exact ⟨_,_,rfl,.inl ⟨Q6 HX,rfl,rfl⟩,by rw [Q6 HM]; exact Q6 HB⟩
   ·have HA2:Hid (∀ k (h:k < l.length),k < j+1→l[k].size≤65535):=Qa fun k hk hkj=>by
     by_cases e:k=j
     ·subst e; omega
     ·exact Q6 HA k hk (by omega)
    have hz3:=Q6 HZ j cj
    have hz4:=Q6 HZ2 (j+1)
    have hz5:s.size=Q2r (l.take j):=by rw [Q6 HS,Q73]
    have hf:=Q9D l j cj
    rw [←Q6 HS] at hf
    have HFT:=Qa hf
    have hn2:s.size+2+l[j].size≤67108864:=by omega
    clear hf hz3 hz4 hz5 HS HA
    generalize l[j]=x at *
    obtain ⟨z,hz⟩:∃ z,wd x.size=z:=⟨_,rfl⟩
    have hwz:=Q00 x.size
    have Key:Hid (∀ w,Calls Tryz.prog 50 #[.int .i64 (x.size:Int),.int .i64 2] w fun e w'=>e=.returned (.string z)∧Below w.heap.size w w'):=fun w=>by rw [←hz]; exact Q4t _ _ w rfl (by omega)
    rw [hz] at hwz HFT
    clear hz
    have hsS:(s++z).size≤67108864:=by rw [ByteArray.size_append]; omega
    have hsT:(s++z++x).size≤67108864:=by rw [ByteArray.size_append,ByteArray.size_append]; omega
    have hadd:∀ W:World,(Op.stringOp .add s z).run Tryz.prog W=.ok (.string (s++z)) W:=fun W=>run_string_add_sum W s z (by omega)
    have hadd2:∀ W:World,(Op.stringOp .add (s++z) x).run Tryz.prog W=.ok (.string (s++z++x)) W:=fun W=>run_string_add_sum W (s++z) x (by rw [ByteArray.size_append]; omega)
    have hbw:b < wr.heap.size:=by omega
    go_wp2_with fail
    go_region_held3 (fun u=>u.cell? ⟨b,o+j,none⟩=some (.string x)) (go_keep)
     (first
      | (go_at_call 50; refine (Q6 Key _).mono ?_; rintro e w1 ⟨rfl,hb1'⟩; have hb1:=Q0x hb1'; have y0:=(hb1.cell (p:=⟨b,o+j,none⟩) (show b < wr.heap.size by omega)).trans x0; have HB1:=Qa ((Q6 HB).trans (hb1.mono hs)); have hs1:M≤w1.heap.size:=Nat.le_trans hs hb1.size))
    go_wp2_with fail
    exact ⟨⟨j+1,s++z++x,by omega,by go_num,rfl,hsT,Qa (Q6 HFT).symm,HA2,HB1,hs1⟩,by simp [intOf]; omega⟩
  ·have ej:j=l.length:=by omega
   subst ej
   have HAll:Hid (∀ x,x∈l→x.size≤65535):=Qa fun x hx=>by
    obtain ⟨k,hk,rfl⟩:=List.mem_iff_getElem.1 hx
    exact Q6 HA k hk hk
   have hsl:=Q6 HS
   rw [List.take_length] at hsl
   have HSL:=Qa hsl
   clear hsl HA HS
   go_wp2_with fail
   go_ret2
   exact ⟨_,_,rfl,.inr ⟨Q6 HAll,Q6 HSL,rfl⟩,by rw [Q6 HM]; exact Q6 HB⟩
set_option maxHeartbeats 400000 in
theorem QgX (b:ByteArray) (k n:Nat) (w:World) (hb:b.size≤67108864) (hk:k≤67108864) (hn4:n≤4) (h:b.size < k+n) :
  Calls Tryz.prog 75 #[.string b,.int .i64 (k:Int),.int .i64 (n:Int)] w fun e w'=>e=.returned (.tuple #[.int .i64 0,.bool false])∧w'=w:=by
 go_enter Tryz.func75,Tryz.ntmps75
 go_wp2_with fail
 go_ret2
 exact ⟨rfl,rfl⟩
set_option maxHeartbeats 400000 in
theorem QeI (b:ByteArray) (k n:Nat) (w:World) (hb:b.size≤67108864) (hn4:n≤4) (h:k+n≤b.size) :
  Calls Tryz.prog 75 #[.string b,.int .i64 (k:Int),.int .i64 (n:Int)] w fun e w'=>e=.returned (.tuple #[.int .i64 (num b k n),.bool true])∧w'=w:=by
 go_enter Tryz.func75,Tryz.ntmps75
 go_wp2_with fail
 go_loop [8,9] (fun v i=>∃ j:Nat,j≤n∧i=.int .i64 j∧v=.int .i64 (num b k j)) (fun _ i=>n - (intOf i).toNat)
 case atStart=>exact ⟨0,Nat.zero_le _,rfl,rfl⟩
 case round =>
  obtain ⟨j,hj,rfl,rfl⟩:=hrel
  have hl:=Q6A b k j (by omega)
  by_cases c:j < n
  ·have hb1:=Q10 b (k+j) (by omega)
   have hb2:=Q20 b (k+j)
   go_wp2_with fail
   go_round
   case rel=>exact ⟨j+1,by omega,by go_num,by simp only [num]; congr 1⟩
   case measure=>simp [intOf]; omega
  ·have hj':j=n:=by omega
   subst hj'
   go_wp2_with fail
   go_ret2
   exact ⟨rfl,rfl⟩
theorem Qkr (s:ByteArray) (k:Nat):num s k 2 < 65536:=by
 have h:num s k 2=256 * bt s k+bt s (k+1):=by
  show 256 * (256 * 0+bt s (k+0))+bt s (k+1)=_
  rw [Nat.mul_zero,Nat.zero_add,Nat.add_zero]
 have:=Q20 s k
 have:=Q20 s (k+1)
 omega
set_option maxRecDepth 100000 in
set_option maxHeartbeats 1000000 in
theorem QeZ (s:ByteArray) (w:World) (hz:s.size≤67108864) :
  Calls Tryz.prog 38 #[.string s] w fun r w'=>∃ (a:Option Addr) (c:Nat),r=.returned (.tuple #[.slice a (Q11 s 0).1.length c,.int .i64 ((Q11 s 0).2:Nat)])∧w'.ownsRow w.heap.size 9 1 (.slice a (Q11 s 0).1.length c) (Q11 s 0).1.length (stC (Q11 s 0).1)∧Below w.heap.size w w':=by
 obtain ⟨i0,hi,hz0,hz1,hz2⟩:=info_parts Tryz.infoTx
 have Hi:=Qa hi
 have Hz0:=Qa hz0
 have Hz1:=Qa hz1
 have Hz2:=Qa hz2
 clear hi hz0 hz1 hz2
 obtain ⟨M,hM⟩:∃ M,w.heap.size=M:=⟨_,rfl⟩
 rw [hM]
 have HM:=Qa hM
 have hs0:M≤w.heap.size:=by omega
 clear hM
 go_enter Tryz.func38,Tryz.ntmps38
 go_wp2_with fail
 go_loopg [4,5] (s.size+1) (fun g vl vk w'=>∃ (L:List ByteArray) (j k:Nat) (ar:Option Addr) (cr:Nat),vl=.slice ar j cr∧vk=.int .i64 k∧k≤s.size∧j≤k∧g=s.size+1 - k∧Hid (L.length=j)∧Hid (Q11 s 0=(L++(Q11 s k).1,(Q11 s k).2))∧Hid (w'.ownsRow M 9 1 (.slice ar j cr) j (stC L))∧Hid (Below M w w')∧M≤w'.heap.size)
 case atStart=>exact ⟨[],0,0,none,0,rfl,rfl,Nat.zero_le _,Nat.le_refl _,rfl,Qa rfl,Qa rfl,Qa (World.ownsRow_nil _ _ _ _),Qa (Below.refl _ _),hs0⟩
 case round =>
  obtain ⟨L,j,k,ar,cr,rfl,rfl,hk,hjk,rfl,HL,HC,HO,HB,hs⟩:=hrel
  by_cases ck:k < s.size
  ·by_cases c2:k+2≤s.size
   ·have hnl:=Qkr s k
    have Key:Hid (∀ W,Calls Tryz.prog 75 #[.string s,.int .i64 (k:Int),.int .i64 2] W fun e w'=>e=.returned (.tuple #[.int .i64 (num s k 2:Nat),.bool true])∧w'=W):=Qa fun W=>QeI s k 2 W (by omega) (by omega) (by omega)
    by_cases cw:k+2+num s k 2≤s.size
    ·have hcy:=Q4E ⟨c2,cw⟩
     have HC2:Hid (Q11 s 0=(L++[s.extract (k+2) (k+2+num s k 2)]++(Q11 s (k+2+num s k 2)).1,(Q11 s (k+2+num s k 2)).2)):=Qa (by rw [Q6 HC,hcy,List.append_assoc]; rfl)
     clear hcy HC
     generalize num s k 2=n at *
     go_wp2_with fail
     refine (Q6 Key _).mono ?_
     rintro e w1 ⟨rfl,rfl⟩
     have hlt2:¬ (s.size:Int) < (k:Int)+2+n:=by omega
     go_wp2_with (at_builtin; refine Qe _ rfl _ _ 34 34 rfl M 9 i0 (.string ⟨#[]⟩) 1 16 Tryz.underlying34 (Q6 Hi) (Q6 Hz0) (Q6 Hz1) (Q6 Hz2) rfl (.slice ar j cr) j (stC L) (by rfl) ((Q6 HO).alloc _) (.slice (some ⟨w1.heap.size,0,none⟩) 1 1) 1 [.string (s.extract (k+2) (k+2+n))] (by rfl) (Src.ofSlice _ Tryz.underlying34 ⟨w1.heap.size,0,none⟩ 1 1 _ rfl (Q1O _ _ _ _ rfl) (fun x hx=>by simp at hx; subst hx; rfl)) (by unfold maxLen; omega) (by omega) (by simp; omega) ?_; intro a4 e4 w4 hown4 hgrow4 hat4)
     go_roundg (s.size+1 - (k+2+n))
     case measure=>omega
     case rel =>
      have hA4:=(Below.refl M w1).alloc hs (.cells #[.string (s.extract (k+2) (k+2+n))] 9)
      have hB4:=hA4.trans (Qn ((Q6 HO).alloc _) hgrow4 (Nat.le_trans hs hA4.size))
      refine ⟨L++[s.extract (k+2) (k+2+n)],j+1,k+2+n,a4,e4,rfl,by go_num,by omega,by omega,rfl,Qa (by rw [List.length_append,Q6 HL]; rfl),HC2,Qa (by rw [Q7h]; exact hown4),Qa ((Q6 HB).trans hB4),Nat.le_trans hs hB4.size⟩
    ·have hcn:=Q4S (s:=s) (k:=k) (fun h=>cw h.2)
     have hfin:=Q6 HC
     rw [hcn,List.append_nil] at hfin
     have HFin:=Qa hfin
     clear hcn hfin HC
     generalize num s k 2=n at *
     go_wp2_with fail
     refine (Q6 Key _).mono ?_
     rintro e w1 ⟨rfl,rfl⟩
     have hlt2:(s.size:Int) < (k:Int)+2+n:=by omega
     go_wp2_with fail
     go_ret2
     rw [Q6 HFin,Q6 HL]
     exact ⟨ar,cr,by rw [show (((s.size - k:Nat)):Int)=s.size - k by omega]; rfl,Q6 HO,Q6 HB⟩
   ·have hcn:=Q4S (s:=s) (k:=k) (fun h=>c2 h.1)
    have hfin:=Q6 HC
    rw [hcn,List.append_nil] at hfin
    have HFin:=Qa hfin
    have Key:Hid (∀ W,Calls Tryz.prog 75 #[.string s,.int .i64 (k:Int),.int .i64 2] W fun e w'=>e=.returned (.tuple #[.int .i64 0,.bool false])∧w'=W):=Qa fun W=>QgX s k 2 W (by omega) (by omega) (by omega) (by omega)
    clear hcn hfin HC
    go_wp2_with fail
    refine (Q6 Key _).mono ?_
    rintro e w1 ⟨rfl,rfl⟩
    go_wp2_with fail
    go_ret2
    rw [Q6 HFin,Q6 HL]
    exact ⟨ar,cr,by rw [show (((s.size - k:Nat)):Int)=s.size - k by omega]; rfl,Q6 HO,Q6 HB⟩
  ·have hcn:=Q4S (s:=s) (k:=k) (fun h=>by omega)
   have hfin:=Q6 HC
   rw [hcn,List.append_nil] at hfin
   have HFin:=Qa hfin
   clear hcn hfin HC
   go_wp2_with fail
   go_ret2
   rw [Q6 HFin,Q6 HL]
   exact ⟨ar,cr,by rw [show (((s.size - k:Nat)):Int)=0 by omega]; rfl,Q6 HO,Q6 HB⟩
def RoomT (w:World) (N:Nat) (v:Value) (l:List ByteArray):Prop :=
 ∃ g,v=.slice (some ⟨g,0,none⟩) l.length (l.length+1)∧N≤g∧w.heap[g]? = some (.cells (stC l++([Value.string ⟨#[98,101,121,111,110,100]⟩]:List Value)).toArray 9 (0,0))
theorem Qhk (pre:List Value) (x0 v:Value) (r:List Value) (n:Nat) (hn:pre.length=n):((pre++x0 :: r).toArray).setIfInBounds n v=(pre++v :: r).toArray:=by
 subst hn
 apply Array.ext'
 simp
theorem QcD (pre:List Value) (x0:Value) (r:List Value) (n:Nat) (hn:pre.length=n):((pre++x0 :: r).toArray)[n]? = some x0:=by
 subst hn
 simp
theorem Qg5 (l:List ByteArray):∀ v∈stC l,v.oneCell'=true:=by
 intro v hv
 unfold stC at hv
 obtain ⟨x,_,rfl⟩:=List.mem_map.1 hv
 rfl
set_option maxRecDepth 100000 in
set_option maxHeartbeats 1000000 in
theorem Qag (l:List ByteArray) (a:Option Addr) (c N:Nat) (w:World) (hrow:RowAt w N a (stC l)) (hN:N≤w.heap.size) (hn:l.length≤16777216) :
  Calls Tryz.prog 54 #[.slice a l.length c] w fun e w'=>(∃ v,e=.returned v∧RoomT w' w.heap.size v l)∧Below w.heap.size w w':=by
 obtain ⟨i0,hi,hz0,hz1,hz2⟩:=info_parts Tryz.infoTx
 have Hi:=Qa hi
 have Hz0:=Qa hz0
 have Hz1:=Qa hz1
 have Hz2:=Qa hz2
 have HRow:=Qa (fun W (hb:Below N w W)=>hrow.below hb)
 clear hi hz0 hz1 hz2 hrow
 obtain ⟨n,hln⟩:∃ n,l.length=n:=⟨_,rfl⟩
 rw [hln] at hn ⊢
 have hcl:=Q4j l
 rw [hln] at hcl
 have HCl:=Qa hcl
 have HLn:=Qa hln
 clear hcl hln
 go_enter Tryz.func54,Tryz.ntmps54
 have hmt:=Q6y #[.string ⟨#[]⟩] n 1 rfl (by decide)
 have hms:(madeCells #[.string ⟨#[]⟩] ((n+1) * 1)).size=(n+1) * 1:=size_madeCells _ _
 have HMt:=Qa hmt
 have HMs:=Qa hms
 have HOne:=Qa (Qg5 l)
 obtain ⟨g,hg⟩:∃ g,w.heap.size=g:=⟨_,rfl⟩
 clear hmt hms
 go_wp2_with (at_make; refine wpList_make_full _ rfl _ _ 34 rfl w.heap.size 9 i0 (.string ⟨#[]⟩) 1 Tryz.underlying34 (Q6 Hi) (Q6 Hz0) (Q6 Hz1) .i64 .i64 ((n:Int)+1) ((n:Int)+1) (n+1) (by rfl) (by rfl) (by omega) (by omega) (by rw [Q6 Hz2]; omega) (by unfold maxLen; omega) (Nat.le_refl _) ?_; intro w1 hown1 hgrow1; have hg1:=Q54 hown1; rw [hg,Array.toArray_toList] at hg1; have HG1:Hid (w1.heap[g]? = some (.cells (madeCells #[.string ⟨#[]⟩] ((n+1) * 1)) 9 (0,0))):=hg1; have hB1:Below w.heap.size w w1:=⟨hgrow1.os,hgrow1.tape,hgrow1.output,hgrow1.size,fun k hk=>hgrow1.block k hk (by simp)⟩; clear hown1 hgrow1 hg1; rw [hg])
 have hfit:(stC l).length≤(madeCells #[.string ⟨#[]⟩] ((n+1) * 1)).size:=by rw [Q6 HCl,Q6 HMs]; omega
 have hlen5:(stC l).length=n * i0.size:=by rw [Q6 Hz1,Nat.mul_one]; exact Q6 HCl
 obtain ⟨w2,hw2⟩:∃ w2,w1.setRow g (stC l++(madeCells #[.string ⟨#[]⟩] ((n+1) * 1)).toList.drop (stC l).length).toArray=w2:=⟨_,rfl⟩
 have hg2:=setRow_heap w1 g _ (stC l++(madeCells #[.string ⟨#[]⟩] ((n+1) * 1)).toList.drop (stC l).length).toArray 9 _ (Q6 HG1)
 have hB2:=below_setRow hB1 (show w.heap.size≤g by omega) (stC l++(madeCells #[.string ⟨#[]⟩] ((n+1) * 1)).toList.drop (stC l).length).toArray
 rw [hw2] at hg2 hB2
 rw [Q35 w1 34 34 3 9 i0 g (n+1) (n+1) a n c _ 9 (stC l) Tryz.underlying34 (Q6 Hi) (Q6 HG1) hlen5 (by omega) (Q6 HRow _ (hB1.mono hN)).addr hfit (Q6 HOne),hw2]
 have hg3:w2.heap[g]? = some (.cells (stC l++([Value.string ⟨#[]⟩]:List Value)).toArray 9 (0,0)):=by
  rw [hg2,Q6 HCl]
  have:=Q6 HMt
  rw [Nat.mul_one] at this
  rw [this]
 have cc:=(Qc hg3 n).trans (QcD _ _ _ _ (Q6 HCl))
 have zz:=Qd hg3 n
 have HG3:=Qa hg3
 clear hg2 hg3 hfit hlen5 hB1 hw2
 go_wp2_with fail
 go_ret
 refine ⟨⟨_,rfl,g,by rw [Q6 HLn]; rfl,by omega,?_⟩,hB2.setCell (show w.heap.size≤g by omega) _⟩
 have hfin:=Qo (Q6 HG3) n (.string ⟨#[98,101,121,111,110,100]⟩)
 rw [Qhk _ _ _ _ _ (Q6 HCl)] at hfin
 exact hfin
theorem RoomT.row {w:World} {N:Nat} {v:Value} {l:List ByteArray} (h:RoomT w N v l):∃ g,v=.slice (some ⟨g,0,none⟩) l.length (l.length+1)∧N≤g∧g < w.heap.size∧RowAt w w.heap.size (some ⟨g,0,none⟩) (stC l):=by
 obtain ⟨g,h1,h2,h3⟩:=h
 refine ⟨g,h1,h2,Qb h3,fun _=>⟨g,0,rfl,Qb h3,fun j u hu=>?_⟩⟩
 rw [Nat.zero_add,Qc h3]
 have hj:=(List.getElem?_eq_some_iff.1 hu).1
 rw [List.getElem?_toArray,List.getElem?_append_left hj]
 exact hu
theorem RoomT.below {w w':World} {N:Nat} {v:Value} {l:List ByteArray} (h:RoomT w N v l) (hb:Below w.heap.size w w'):RoomT w' N v l:=by
 obtain ⟨g,h1,h2,h3⟩:=h
 exact ⟨g,h1,h2,(hb.block g (Qb h3)).trans h3⟩
set_option maxRecDepth 100000 in
set_option maxHeartbeats 1000000 in
theorem Q4B (l:List ByteArray) (a a':Option Addr) (c c' N N':Nat) (w:World) (h1:RowAt w N a (stC l)) (h2:RowAt w N' a' (stC l)) (hn:l.length≤67108864) :
  Calls Tryz.prog 18 #[.slice a l.length c,.slice a' l.length c'] w fun e w'=>e=.returned (.bool true)∧∃ n,w'=w.drewN n:=by
 have H1:=Qa h1
 have H2:=Qa h2
 clear h1 h2
 have hnn:((l.length:Int) != (l.length:Int))=false:=by simp
 go_enter Tryz.func18,Tryz.ntmps18
 go_wp2_with fail
 go_loopw [5] (fun i w'=>∃ j m:Nat,j≤l.length∧i=.int .i64 j∧w'=w.drewN m) (fun i _=>l.length - (intOf i).toNat)
 case atStart=>exact ⟨0,0,Nat.zero_le _,rfl,rfl⟩
 case round =>
  obtain ⟨j,m,hj,rfl,rfl⟩:=hrel
  by_cases cj:j < l.length
  ·obtain ⟨b,o,rfl,_,x0⟩:=QdE (Q6 H1) j cj
   obtain ⟨b',o',rfl,_,y0⟩:=QdE (Q6 H2) j cj
   generalize l[j]=k at *
   have hkk:(k.toList != k.toList)=false:=by simp
   go_wp2_with fail
   go_quiet (fail)
   go_wp2_with fail
   exact ⟨⟨j+1,m+nq,by omega,by go_num,rfl⟩,by simp [intOf]; omega⟩
  ·go_wp2_with fail
   go_ret
   exact ⟨rfl,m,rfl⟩
set_option maxRecDepth 100000 in
set_option maxHeartbeats 1000000 in
theorem Q95 (l:List ByteArray) (v:Value) (a:Option Addr) (c N N':Nat) (w:World) (h:RoomT w N v l) (h2:RowAt w N' a (stC l)) (hn:l.length≤16777216) :
  Calls Tryz.prog 57 #[v,.slice a l.length c] w fun e w'=>e=.returned (.bool true)∧Below w.heap.size w w':=by
 obtain ⟨g,rfl,_,hlt,hrow⟩:=h.row
 obtain ⟨g',e1,_,hg⟩:=h
 cases e1
 have Key:=Qa (Q4B l (some ⟨g,0,none⟩) a (l.length+1) c w.heap.size N' w hrow h2 (by omega))
 have hc:=(Qc hg l.length).trans (QcD _ _ _ _ (Q4j l))
 clear hrow h2 hg
 go_enter Tryz.func57,Tryz.ntmps57
 go_wp2_with fail
 refine (Q6 Key).mono ?_
 rintro e w1 ⟨rfl,n1,rfl⟩
 have hcc:(w.drewN n1).cell? ⟨g,l.length,none⟩=some (.string ⟨#[98,101,121,111,110,100]⟩):=hc
 generalize l.length=n at *
 go_wp2_with fail
 go_ret
 exact ⟨rfl,rfl,rfl,rfl,Nat.le_refl _,fun _ _=>rfl⟩
set_option maxRecDepth 100000 in
set_option maxHeartbeats 1000000 in
theorem Qeu (l:List ByteArray) (a:Option Addr) (c N:Nat) (w:World) (hrow:RowAt w N a (stC l)) (hN:N≤w.heap.size) (hl:l.length≤16777216) (hz:Q2r l≤67108864) :
  Calls Tryz.prog 28 #[.slice a l.length c] w fun e w'=>e=.returned (.bool true)∧Below w.heap.size w w':=by
 have k1:=Qag l a c N w hrow hN hl
 have HRow:=Qa (fun W (h:Below N w W)=>hrow.below h)
 have K1:=Qa k1
 have HZ:=Qa hz
 clear k1 hrow hz
 go_enter Tryz.func28,Tryz.ntmps28
 go_wp2_with fail
 refine (Q6 K1).mono ?_
 rintro e w1 ⟨⟨v,rfl,hroom⟩,b1⟩
 obtain ⟨g,rfl,_,hg,hgrow⟩:=hroom.row
 have HRoom:=Qa hroom
 have HB1:=Qa b1
 have hs1:w.heap.size≤w1.heap.size:=b1.size
 have k2:=Qkb l (some ⟨g,0,none⟩) (l.length+1) w1.heap.size w1 hgrow (Nat.le_refl _) (by omega) (Q6 HZ)
 have K2:=Qa k2
 clear hroom b1 k2 hgrow K1
 go_wp2_with fail
 refine (Q6 K2).mono ?_
 rintro e w2 ⟨s,f,rfl,q2,b2⟩
 have HRoom2:=Qa ((Q6 HRoom).below b2)
 have HQ2:=Qa q2
 have HB2:=Qa ((Q6 HB1).trans (b2.mono hs1))
 have hs2:w.heap.size≤w2.heap.size:=Nat.le_trans hs1 b2.size
 have k3:=Qck l a c N w2 (Q6 HRow _ ((Q6 HB2).mono hN)) (Nat.le_trans hN hs2) (by omega) (Q6 HZ)
 have K3:=Qa k3
 clear q2 b2 k3 K2 HRoom HB1
 go_wp2_with fail
 refine (Q6 K3).mono ?_
 rintro e w3 ⟨t,f',rfl,q3,b3⟩
 obtain ⟨rfl,rfl⟩:=(Q6 HQ2).same q3
 have HRoom3:=Qa ((Q6 HRoom2).below b3)
 have HB3:=Qa ((Q6 HB2).trans (b3.mono hs2))
 have hs3:w.heap.size≤w3.heap.size:=Nat.le_trans hs2 b3.size
 have k4:=Q95 l (.slice (some ⟨g,0,none⟩) l.length (l.length+1)) a c _ N w3 (Q6 HRoom3) (Q6 HRow _ ((Q6 HB3).mono hN)) hl
 have K4:=Qa k4
 clear q3 b3 k4 K3 HRoom2 HB2 HRoom3 HQ2
 go_wp2_with fail
 refine (Q6 K4).mono ?_
 rintro e w4 ⟨rfl,b4⟩
 have HB4:=Qa ((Q6 HB3).trans (b4.mono hs3))
 clear b4 K4 HB3
 have hss:(s.toList == s.toList)=true:=by simp
 have hff:(f == f)=true:=by simp
 go_wp2_with fail
 go_ret
 exact ⟨rfl,Q6 HB4⟩
section
variable {P:Program} (w:World)
theorem Q7f (t tx ty e:TypeId) (i:TypeInfo) (z:Value) (ht:P.underlying t=some (.slice e)) (hi:P.info? e=some i) (hz:i.zero=some z)
  (base:Nat) (g n cap:Nat) (xs:List Value) (hown:w.ownsRow base e i.size (.slice (some ⟨g,0,none⟩) n cap) n xs)
  (x:Value) (m:Nat) (news:List Value) (hs:Src P i.size tx x m news w)
  (h63:n+m≤maxLen) (hbytes:(n+m) * i.bytes≤140737488355328) {v':Value} {w':World}
  (hr:(Builtin.append_ #[t,tx] ty #[.slice (some ⟨g,0,none⟩) n cap,x]).run P w=.ok v' w') :
  ∃ cs,w'.heap[g]? = some (.cells cs e (0,0))∧∀ (j:Nat) (u:Value),xs[j]? = some u→cs[j]? = some u:=by
 have hsmall:n+m≤9223372036854775807:=by simp only [maxLen] at h63; omega
 have hlen:xs.length=n * i.size:=hown.1
 rcases hown.2 with ⟨h0,_⟩ | ⟨g',cap',cur,h0,hbg,hg,hnc,hcm,hcs,htake⟩
 ·cases h0
 ·cases h0
  by_cases hroom:n+m≤cap
  ·have hfit:n * i.size+news.length≤cur.size:=by rw [hs.newsLen,hcs,←Nat.add_mul]; exact Nat.mul_le_mul_right _ hroom
   have hr2:=Q31 (P:=P) w t tx ty e i ht hi g n cap cur hg x m news hs hroom hfit
   rw [hr2] at hr
   cases hr
   refine ⟨_,setRow_heap w g cur _ e _ hg,fun j u hu=>?_⟩
   have hj:j < n * i.size:=by rw [←hlen]; exact (List.getElem?_eq_some_iff.1 hu).1
   rw [List.append_assoc,List.getElem?_toArray,htake,List.getElem?_append_left (by rw [hlen]; exact hj)]
   exact hu
  ·have holds:∀ j u,xs[j]? = some u→w.cell? ((⟨g,0,none⟩:Addr).add j)=some u:=hown.cells (g:=g) rfl
   have hold:=run_firstCells_some (P:=P) w.drew i.size n ⟨g,0,none⟩ n cap xs hown.1 (by simpa using holds)
   have hr2:=run_append_grow_src (P:=P) w t tx ty e i z ht hi hz (some ⟨g,0,none⟩) n cap xs hold x m news hs (by omega) (by omega) (growslice_fits (by omega) hbytes)
   rw [hr2] at hr
   cases hr
   have h1:=heap_alloc_old w.drew (.cells ((xs++news).toArray++Builtin.zeroCells z.cells (grownCap w (n+m) cap e - (n+m))) e) (Qb hg)
   refine ⟨cur,h1.trans hg,fun j u hu=>?_⟩
   have hj:j < n * i.size:=by rw [←hlen]; exact (List.getElem?_eq_some_iff.1 hu).1
   rw [←hu,←htake,List.getElem?_take,if_pos hj]
   simp
theorem Q7k {ops:Array Oper} {rest:List Oper} {o:Oper} {a:Act} {Q:Exit→Act→World→Prop} (hgd:o.guard=none) (s x:Operand) (t tx:TypeId)
  (ho:o.op=.call { callee:=.builtin .append,args:=#[s,x],argTypes:=#[t,tx] })
  (base:Nat) (e:TypeId) (i:TypeInfo) (z:Value) (size bytes:Nat) (ht:P.underlying t=some (.slice e)) (hi:P.info? e=some i) (hz:i.zero=some z)
  (hsize:i.size=size) (hby:i.bytes=bytes) (hzs:z.cells.size=size)
  (v:Value) (n:Nat) (xs:List Value) (hs:a.eval s=v) (hown:w.ownsRow base e size v n xs)
  (y:Value) (m:Nat) (news:List Value) (hx:a.eval x=y) (hsrc:Src P size tx y m news w)
  (h63:n+m≤maxLen) (hbytes:(n+m) * bytes≤140737488355328) (hbase:base≤w.heap.size)
  (h:∀ a' c' w',w'.ownsRow base e size (.slice a' (n+m) c') (n+m) (xs++news)→w.grownBy w' v.ownBlock→((Value.slice a' (n+m) c').ownBlock=v.ownBlock∨(Value.slice a' (n+m) c').ownBlock=some w.heap.size)→(∀ g,v.ownBlock=some g→∃ cs,w'.heap[g]? = some (.cells cs e (0,0))∧∀ (j:Nat) (u:Value),xs[j]? = some u→cs[j]? = some u)→wpList P ops Q rest (a.put o.dst (.slice a' (n+m) c')) w'):wpList P ops Q (o :: rest) a w:=by
 refine wpList_plain hgd fun K hK=>?_
 obtain ⟨v',w',hr,h2,h3,h4⟩:=Q3z (P:=P) w base t tx o.type e i z size bytes ht hi hz hsize hby hzs v n xs hown y m news hsrc h63 hbytes hbase
 subst hsize
 subst hby
 have h5:∀ g,v.ownBlock=some g→∃ cs,w'.heap[g]? = some (.cells cs e (0,0))∧∀ (j:Nat) (u:Value),xs[j]? = some u→cs[j]? = some u:=fun g hg=>by
  rcases hown.2 with ⟨q,_⟩ | ⟨g',cap,cur,q,_⟩
  ·rw [q] at hg; simp [Value.ownBlock] at hg
  ·subst q
   obtain rfl:g'=g:=by simpa [Value.ownBlock] using hg
   exact Q7f w t tx o.type e i z ht hi hz base g' n cap xs hown y m news hsrc h63 hbytes hr
 unfold Oper.wp execOp
 simp only [ho,resolve,invoke,builtin,Sem.run_bind,Sem.run_pure,Result.andThen_ok,List.map_toArray,List.map_cons,List.map_nil,hs,hx,hr]
 obtain ⟨a',c',rfl⟩:∃ a' c',v'=.slice a' (n+m) c':=by
  rcases h2.2 with ⟨g1,g2⟩ | ⟨g,cap,cur,g1,g2⟩
  ·exact ⟨none,0,by rw [g1,g2]⟩
  ·exact ⟨_,_,g1⟩
 exact hK _ _ (h a' c' w' h2 h3 h4 h5)
end
set_option maxHeartbeats 400000 in
theorem QiX (s:ByteArray) (w:World) :
  Calls Tryz.prog 37 #[.pointer none,.string s] w fun r w'=>r=.returned (.slice none 0 0)∧w'=w:=by
 go_enter Tryz.func37,Tryz.ntmps37
 go_wp2_with fail
 go_ret
 exact ⟨rfl,rfl⟩
set_option maxHeartbeats 400000 in
theorem QgJ (w:World) :
  Calls Tryz.prog 39 #[.pointer none] w fun r w'=>r=.returned (.int .i64 0)∧w'=w:=by
 go_enter Tryz.func39,Tryz.ntmps39
 go_wp2_with fail
 go_ret
 exact ⟨rfl,rfl⟩
set_option maxHeartbeats 400000 in
theorem Qd8 (s:ByteArray) (w:World) :
  Calls Tryz.prog 36 #[.string s] w fun r w'=>r=.returned (.bool true)∧w'=w:=by
 go_enter Tryz.func36,Tryz.ntmps36
 go_wp2_with fail
 refine (QiX s _).mono ?_
 rintro r w1 ⟨rfl,rfl⟩
 go_wp2_with fail
 refine (QgJ _).mono ?_
 rintro r w2 ⟨rfl,rfl⟩
 go_wp2_with fail
 go_ret
 exact ⟨rfl,rfl⟩
set_option maxHeartbeats 400000 in
theorem QlJ (c:Int) (w:World) (h1:-9223372036854775808≤c) (h2:c < 9223372036854775808) :
  Calls Tryz.prog 35 #[.int .i64 c,.int .i64 3] w fun e w'=>(∃ r:Nat,r < 3∧e=.returned (.int .i64 r))∧w'=w:=by
 have key:∀ d:Int,0≤d→∃ r:Nat,r < 3∧Int.tmod d 3=r:=fun d hd=>by
  have a1:=Int.tmod_nonneg (3:Int) hd
  have a2:=Int.tmod_lt_of_pos d (show (0:Int) < 3 by omega)
  exact ⟨(Int.tmod d 3).toNat,by omega,by omega⟩
 by_cases hc:c < 0
 ·obtain ⟨r,hr,er⟩:=key (-(c+1)) (by omega)
  go_enter Tryz.func35,Tryz.ntmps35
  go_wp2_with fail
  go_ret
  exact ⟨⟨r,hr,rfl⟩,rfl⟩
 ·obtain ⟨r,hr,er⟩:=key c (by omega)
  go_enter Tryz.func35,Tryz.ntmps35
  go_wp2_with fail
  go_ret
  exact ⟨⟨r,hr,rfl⟩,rfl⟩
def Qm8 (w:World) (o1 o2:List Value) (i:Nat):Prop :=
 ∃ (a:Option Addr) (c:Nat) (a2:Option Addr) (c2:Nat) (T:List ByteArray),o1[i]? = some (.slice a T.length c)∧o2[i]? = some (.slice a2 T.length c2)∧T.length≤67108864∧RowAt w w.heap.size a (stC T)∧RowAt w w.heap.size a2 (stC T)
theorem Q7P {w:World} {N:Nat} {e:TypeId} {a:Option Addr} {n c:Nat} {xs:List Value} (h:w.ownsRow N e 1 (.slice a n c) n xs) (i:Nat) (v:Value) (hv:xs[i]? = some v):∃ g,a=some ⟨g,0,none⟩∧w.cell? ⟨g,i,none⟩=some v:=by
 rcases h.2 with ⟨h1,h2⟩ | ⟨g,cap,cur,h1,_⟩
 ·have hx:xs=[]:=List.eq_nil_of_length_eq_zero (by rw [h.1,h2])
  subst hx
  simp at hv
 ·cases h1
  exact ⟨g,rfl,Q0v h i v hv⟩
set_option maxRecDepth 100000 in
set_option maxHeartbeats 1000000 in
theorem QgM (B n M:Nat) (a3 a4:Option Addr) (c3 c4:Nat) (vx va vg:Value) (o1 o2:List Value) (w:World)
  (hB:w.heap[B]? = some (.cells #[vx,va,vg,.slice a3 n c3,.slice a4 n c4] 46 (0,0)))
  (h1:w.ownsRow M 34 1 (.slice a3 n c3) n o1) (h2:w.ownsRow M 34 1 (.slice a4 n c4) n o2) (hall:∀ i,i < n→Qm8 w o1 o2 i) (hn:n≤67108864) :
  Calls Tryz.prog 7 #[.pointer (some ⟨B,0,none⟩)] w fun r w'=>r=.returned (.bool true)∧∃ m,w'=w.drewN m:=by
 have e3:w.cell? ⟨B,3,none⟩=some (.slice a3 n c3):=Qc hB 3
 have e4:w.cell? ⟨B,4,none⟩=some (.slice a4 n c4):=Qc hB 4
 have HO1:=Qa h1
 have HO2:=Qa h2
 have HA:=Qa hall
 clear hB h1 h2 hall
 go_enter Tryz.func7,Tryz.ntmps7
 go_wp2_with fail
 have HE3:=Qa e3
 have HE4:=Qa e4
 clear e3 e4
 go_loopw [3] (fun i w'=>∃ j m:Nat,j≤n∧i=.int .i64 j∧Hid (w'=w.drewN m)) (fun i _=>n - (intOf i).toNat)
 case atStart=>exact ⟨0,0,Nat.zero_le _,rfl,Qa rfl⟩
 case round =>
  obtain ⟨j,m,hj,rfl,HW⟩:=hrel
  have e3:wr.cell? ⟨B,3,none⟩=some (.slice a3 n c3):=by rw [Q6 HW]; exact Q6 HE3
  by_cases cj:j < n
  ·have e4:wr.cell? ⟨B,4,none⟩=some (.slice a4 n c4):=by rw [Q6 HW]; exact Q6 HE4
   obtain ⟨a,c,a2,c2,T,q1,q2,q3,q4,q5⟩:=Q6 HA j cj
   obtain ⟨g1,rfl,x1⟩:=Q7P (Q6 HO1) j _ q1
   obtain ⟨g2,rfl,x2⟩:=Q7P (Q6 HO2) j _ q2
   have y1:wr.cell? ⟨g1,j,none⟩=some (.slice a T.length c):=by rw [Q6 HW]; exact x1
   have y2:wr.cell? ⟨g2,j,none⟩=some (.slice a2 T.length c2):=by rw [Q6 HW]; exact x2
   have Key:Hid (∀ W:World,RowAt W w.heap.size a (stC T)→RowAt W w.heap.size a2 (stC T)→Calls Tryz.prog 18 #[.slice a T.length c,.slice a2 T.length c2] W fun e w'=>e=.returned (.bool true)∧∃ n,w'=W.drewN n):=Qa fun W r1 r2=>Q4B T a a2 c c2 _ _ W r1 r2 q3
   have Q4:Hid (RowAt wr w.heap.size a (stC T)):=by rw [Q6 HW]; exact Qa q4
   have Q5:Hid (RowAt wr w.heap.size a2 (stC T)):=by rw [Q6 HW]; exact Qa q5
   clear q1 q2 q3 q4 q5 x1 x2
   generalize T.length=tl at *
   go_wp2_with fail
   go_quiet (first | (go_at_call 18; exact Calls.quiet_of (Q6 Key _ (by exact Q6 Q4) (by exact Q6 Q5))))
   go_wp2_with fail
   exact ⟨⟨j+1,m+nq,by omega,by go_num,Qa (by rw [Q6 HW,World.drewN_drewN])⟩,by simp [intOf]; omega⟩
  ·go_wp2_with fail
   go_ret
   exact ⟨rfl,m,Q6 HW⟩
theorem Tryz.infoP:(Tryz.prog.info? 47).map (fun i=>(i.zero,i.size,i.bytes))=some (some (.pointer none),1,8):=by kernel_rfl
theorem Tryz.infoI:(Tryz.prog.info? 3).map (fun i=>(i.zero,i.size,i.bytes))=some (some (.int .i64 0),1,8):=by kernel_rfl
theorem Tryz.infoL:(Tryz.prog.info? 34).map (fun i=>(i.zero,i.size,i.bytes))=some (some (.slice none 0 0),1,24):=by kernel_rfl
theorem Q9d {w:World} {a b:Nat} {cs cs':Array Value} {t t':TypeId} {fr fr':Nat × Nat} (h1:w.heap[a]? = some (.cells cs t fr)) (h2:w.heap[b]? = some (.cells cs' t' fr')) (hne:t≠t'):a≠b:=by
 rintro rfl
 rw [h1] at h2
 cases h2
 exact hne rfl
def QkC (l:List Nat):List Value:=l.map fun R=>.pointer (some ⟨R,0,none⟩)
structure Bg (w:World) (N:Nat) (vx:Value) (nx:Nat) (Rs:List Nat) (va:Value) (na:Nat) (la:List Value) (vg:Value) (ng:Nat) (lg:List Value):Prop where
 hB:w.heap[N]? = some (.cells #[vx,va,vg,.slice none 0 0,.slice none 0 0] 46 (0,0))
 hx:w.ownsRow N 47 1 vx nx (QkC Rs)
 ha:w.ownsRow N 9 1 va na la
 hg:w.ownsRow N 3 1 vg ng lg
 hf:∀ R,R∈Rs→N≤R∧w.heap[R]? = some (fdr ⟨#[]⟩ ⟨#[]⟩)
section
variable {w w':World} {N:Nat} {vx:Value} {nx:Nat} {Rs:List Nat} {va:Value} {na:Nat} {la:List Value} {vg:Value} {ng:Nat} {lg:List Value}
theorem Bg.below (h:Bg w N vx nx Rs va na la vg ng lg) (hb:Below w.heap.size w w'):Bg w' N vx nx Rs va na la vg ng lg :=
 ⟨(hb.block N (Qb h.hB)).trans h.hB,Qk h.hx hb,Qk h.ha hb,Qk h.hg hb,fun R hR=>⟨(h.hf R hR).1,(hb.block R (Qb (h.hf R hR).2)).trans (h.hf R hR).2⟩⟩
theorem Bg.alloc (h:Bg w N vx nx Rs va na la vg ng lg) (o:Obj):Bg (w.alloc o) N vx nx Rs va na la vg ng lg :=
 h.below ((Below.refl _ _).alloc (Nat.le_refl _) o)
theorem Bg.appX (h:Bg w N vx nx Rs va na la vg ng lg) {v:Value} {n:Nat} {R:Nat} (ho:w'.ownsRow N 47 1 v n (QkC (Rs++[R]))) (hgr:w.grownBy w' vx.ownBlock) (hR:N≤R∧w.heap[R]? = some (fdr ⟨#[]⟩ ⟨#[]⟩)) :
  Bg (w'.setCell ⟨N,0,none⟩ v) N v n (Rs++[R]) va na la vg ng lg:=by
 have hB:=Q02 h.hx hgr h.hB (by decide)
 refine ⟨(Qo hB 0 v).trans rfl,Qi ho hB (by decide) 0 v,Qi (Q2E h.hx hgr h.ha (by decide)) hB (by decide) 0 v,Qi (Q2E h.hx hgr h.hg (by decide)) hB (by decide) 0 v,fun Q hQ=>?_⟩
 have hq:N≤Q∧w.heap[Q]? = some (fdr ⟨#[]⟩ ⟨#[]⟩):=by
  rcases List.mem_append.1 hQ with e | e
  ·exact h.hf Q e
  ·simp at e; subst e; exact hR
 have h2:=Q02 h.hx hgr (show w.heap[Q]? = some (.cells _ _ _) from hq.2) (by decide)
 exact ⟨hq.1,(Qf (Q9d h2 hB (by decide)) 0 v).trans h2⟩
theorem Bg.appA (h:Bg w N vx nx Rs va na la vg ng lg) {v:Value} {n:Nat} {l:List Value} (ho:w'.ownsRow N 9 1 v n l) (hgr:w.grownBy w' va.ownBlock) :
  Bg (w'.setCell ⟨N,1,none⟩ v) N vx nx Rs v n l vg ng lg:=by
 have hB:=Q02 h.ha hgr h.hB (by decide)
 refine ⟨(Qo hB 1 v).trans rfl,Qi (Q2E h.ha hgr h.hx (by decide)) hB (by decide) 1 v,Qi ho hB (by decide) 1 v,Qi (Q2E h.ha hgr h.hg (by decide)) hB (by decide) 1 v,fun Q hQ=>?_⟩
 have hq:=h.hf Q hQ
 have h2:=Q02 h.ha hgr (show w.heap[Q]? = some (.cells _ _ _) from hq.2) (by decide)
 exact ⟨hq.1,(Qf (Q9d h2 hB (by decide)) 1 v).trans h2⟩
theorem Bg.appG (h:Bg w N vx nx Rs va na la vg ng lg) {v:Value} {n:Nat} {l:List Value} (ho:w'.ownsRow N 3 1 v n l) (hgr:w.grownBy w' vg.ownBlock) :
  Bg (w'.setCell ⟨N,2,none⟩ v) N vx nx Rs va na la v n l:=by
 have hB:=Q02 h.hg hgr h.hB (by decide)
 refine ⟨(Qo hB 2 v).trans rfl,Qi (Q2E h.hg hgr h.hx (by decide)) hB (by decide) 2 v,Qi (Q2E h.hg hgr h.ha (by decide)) hB (by decide) 2 v,Qi ho hB (by decide) 2 v,fun Q hQ=>?_⟩
 have hq:=h.hf Q hQ
 have h2:=Q02 h.hg hgr (show w.heap[Q]? = some (.cells _ _ _) from hq.2) (by decide)
 exact ⟨hq.1,(Qf (Q9d h2 hB (by decide)) 2 v).trans h2⟩
end
set_option maxRecDepth 100000 in
set_option maxHeartbeats 2000000 in
theorem QcF (w:World) :
  Calls Tryz.prog 4 #[] w fun r w'=>∃ (vx va vg:Value) (R0 R1:Nat),r=.returned (.tuple #[.pointer (some ⟨w.heap.size,0,none⟩),.bool true])∧Bg w' w.heap.size vx 2 [R0,R1] va 2 [.string ⟨#[]⟩,.string ⟨#[]⟩] vg 2 [.int .i64 0,.int .i64 0]∧R0≠R1∧Below w.heap.size w w':=by
 obtain ⟨i1,hi,hz0,hz1,hz2⟩:=info_parts Tryz.infoP
 have Hi1:=Qa hi
 have Hp0:=Qa hz0
 have Hp1:=Qa hz1
 have Hp2:=Qa hz2
 clear hi hz0 hz1 hz2
 obtain ⟨i2,hi,hz0,hz1,hz2⟩:=info_parts Tryz.infoTx
 have Hi2:=Qa hi
 have Hs0:=Qa hz0
 have Hs1:=Qa hz1
 have Hs2:=Qa hz2
 clear hi hz0 hz1 hz2
 obtain ⟨i3,hi,hz0,hz1,hz2⟩:=info_parts Tryz.infoI
 have Hi3:=Qa hi
 have Hn0:=Qa hz0
 have Hn1:=Qa hz1
 have Hn2:=Qa hz2
 clear hi hz0 hz1 hz2
 go_enter Tryz.func4,Tryz.ntmps4
 go_wp2_with fail
 have h0:Bg (w.alloc (.cells #[.slice none 0 0,.slice none 0 0,.slice none 0 0,.slice none 0 0,.slice none 0 0] 46)) w.heap.size (.slice none 0 0) 0 [] (.slice none 0 0) 0 [] (.slice none 0 0) 0 [] :=
  ⟨heap_alloc_new _ _,World.ownsRow_nil _ _ _ _,World.ownsRow_nil _ _ _ _,World.ownsRow_nil _ _ _ _,fun R hR=>by cases hR⟩
 have H0:=Qa h0
 have HB0:=Qa ((Below.refl w.heap.size w).alloc (Nat.le_refl _) (.cells #[.slice none 0 0,.slice none 0 0,.slice none 0 0,.slice none 0 0,.slice none 0 0] 46))
 have hs0:w.heap.size≤(w.alloc (.cells #[.slice none 0 0,.slice none 0 0,.slice none 0 0,.slice none 0 0,.slice none 0 0] 46)).heap.size:=by simp
 clear h0
 obtain ⟨N,hN⟩:∃ N,w.heap.size=N:=⟨_,rfl⟩
 rw [hN] at H0 HB0 hs0
 rw [hN]
 generalize w.alloc (.cells #[.slice none 0 0,.slice none 0 0,.slice none 0 0,.slice none 0 0,.slice none 0 0] 46)=w0 at *
 have HN:=Qa hN
 clear hN
 go_loopg [3] 3 (fun g i w'=>∃ (j:Nat) (vx va vg:Value) (Rs:List Nat),i=.int .i64 j∧j≤2∧g=3 - j∧Hid (Bg w' N vx j Rs va j (List.replicate j (.string ⟨#[]⟩)) vg j (List.replicate j (.int .i64 0)))∧Hid (Rs.length=j)∧Hid Rs.Nodup∧Hid (Below N w w')∧N≤w'.heap.size)
 case atStart=>exact ⟨0,_,_,_,[],rfl,by omega,rfl,H0,Qa rfl,Qa List.nodup_nil,HB0,hs0⟩
 case round =>
  obtain ⟨j,vx,va,vg,Rs,rfl,hj,rfl,HG,HL,HD,HB,hs⟩:=hrel
  by_cases cj:j < 2
  ·go_wp2_with fail
   refine (QgU _).mono ?_
   rintro r w1 ⟨rfl,q1,q2,q3⟩
   have g1:=(Q6 HG).below q3
   have HB1:=Qa ((Q6 HB).trans (q3.mono hs))
   have hs1:N≤w1.heap.size:=by omega
   have HF1:Hid (N≤wr.heap.size∧w1.heap[wr.heap.size]? = some (fdr ⟨#[]⟩ ⟨#[]⟩)):=Qa ⟨hs,q1⟩
   have HD1:Hid (Rs++[wr.heap.size]).Nodup:=Qa (by
    rw [List.nodup_append]
    refine ⟨Q6 HD,by simp,fun a ha b hb=>?_⟩
    simp at hb
    subst hb
    have:=Qb ((Q6 HG).hf a ha).2
    omega)
   obtain ⟨R,hR⟩:∃ R,wr.heap.size=R:=⟨_,rfl⟩
   rw [hR] at HF1 HD1
   rw [hR]
   have d0:w1.cell? ⟨N,0,none⟩=some vx:=Qc g1.hB 0
   have f0:=Qd g1.hB 0
   have G1:=Qa g1
   clear q1 q2 q3 HG HB HD g1 hR
   have G1a:=Qa ((Q6 G1).alloc (.cells #[.pointer (some ⟨R,0,none⟩)] 47))
   have e0:(w1.alloc (.cells #[.pointer (some ⟨R,0,none⟩)] 47)).cell? ⟨N,0,none⟩=some vx:=Qc (Q6 G1a).hB 0
   go_upto_region 9 with (at_builtin; refine Qe _ rfl _ _ 42 42 rfl N 47 i1 (.pointer none) 1 8 Tryz.underlying42 (Q6 Hi1) (Q6 Hp0) (Q6 Hp1) (Q6 Hp2) rfl vx j (QkC Rs) (by rfl) (Q6 G1a).hx (.slice (some ⟨w1.heap.size,0,none⟩) 1 1) 1 [.pointer (some ⟨R,0,none⟩)] (by rfl) (Src.ofSlice _ Tryz.underlying42 ⟨w1.heap.size,0,none⟩ 1 1 _ rfl (Q1O _ _ _ _ rfl) (fun x hx=>by simp at hx; subst hx; rfl)) (by unfold maxLen; omega) (by omega) (by simp; omega) ?_; intro a2 e2 w2 hown2 hgrow2 hat2; have hB2:=Q02 (Q6 G1a).hx hgrow2 (Q6 G1a).hB (by decide); have b0:w2.cell? ⟨N,0,none⟩=some vx:=Qc hB2 0; have z0:=Qd hB2 0; have HOwn2:=Qa hown2; have HGrow2:=Qa hgrow2; clear hown2 hgrow2 hat2 hB2)
   have G2:=Qa ((Q6 G1a).appX (R:=R) (by rw [QkC,List.map_append]; exact Q6 HOwn2) (Q6 HGrow2) ⟨(Q6 HF1).1,((Below.refl _ _).alloc (Nat.le_refl _) _).block _ (Qb (Q6 HF1).2) |>.trans (Q6 HF1).2⟩)
   have hA2:=(Below.refl N w1).alloc hs1 (.cells #[.pointer (some ⟨R,0,none⟩)] 47)
   have HB2:=Qa ((Q6 HB1).trans ((hA2.trans (Qn (Q6 G1a).hx (Q6 HGrow2) (Nat.le_trans hs1 hA2.size))).setCell (p:=⟨N,0,none⟩) (Nat.le_refl N) (.slice a2 (j+1) e2)))
   have hs2:N≤(w2.setCell ⟨N,0,none⟩ (.slice a2 (j+1) e2)).heap.size:=by have:=(Q6 HGrow2).size; rw [Q0l]; have:=hA2.size; omega
   clear HOwn2 HGrow2 hA2 G1 G1a HB1 HF1 d0 f0 e0 b0 z0
   generalize w2.setCell ⟨N,0,none⟩ (.slice a2 (j+1) e2)=w3 at *
   have d0:w3.cell? ⟨N,1,none⟩=some va:=Qc (Q6 G2).hB 1
   have f0:=Qd (Q6 G2).hB 1
   have G2a:=Qa ((Q6 G2).alloc (.cells #[.string ⟨#[]⟩] 9))
   have e0:(w3.alloc (.cells #[.string ⟨#[]⟩] 9)).cell? ⟨N,1,none⟩=some va:=Qc (Q6 G2a).hB 1
   go_upto_region 10 with (at_builtin; refine Qe _ rfl _ _ 34 34 rfl N 9 i2 (.string ⟨#[]⟩) 1 16 Tryz.underlying34 (Q6 Hi2) (Q6 Hs0) (Q6 Hs1) (Q6 Hs2) rfl va j (List.replicate j (.string ⟨#[]⟩)) (by rfl) (Q6 G2a).ha (.slice (some ⟨w3.heap.size,0,none⟩) 1 1) 1 [.string ⟨#[]⟩] (by rfl) (Src.ofSlice _ Tryz.underlying34 ⟨w3.heap.size,0,none⟩ 1 1 _ rfl (Q1O _ _ _ _ rfl) (fun x hx=>by simp at hx; subst hx; rfl)) (by unfold maxLen; omega) (by omega) (by simp; omega) ?_; intro a4 e4 w4 hown4 hgrow4 hat4; have hB4:=Q02 (Q6 G2a).ha hgrow4 (Q6 G2a).hB (by decide); have b0:w4.cell? ⟨N,1,none⟩=some va:=Qc hB4 1; have z0:=Qd hB4 1; have HOwn4:=Qa hown4; have HGrow4:=Qa hgrow4; clear hown4 hgrow4 hat4 hB4)
   have G4:=Qa ((Q6 G2a).appA (Q6 HOwn4) (Q6 HGrow4))
   have hA4:=(Below.refl N w3).alloc hs2 (.cells #[.string ⟨#[]⟩] 9)
   have HB4:=Qa ((Q6 HB2).trans ((hA4.trans (Qn (Q6 G2a).ha (Q6 HGrow4) (Nat.le_trans hs2 hA4.size))).setCell (p:=⟨N,1,none⟩) (Nat.le_refl N) (.slice a4 (j+1) e4)))
   have hs4:N≤(w4.setCell ⟨N,1,none⟩ (.slice a4 (j+1) e4)).heap.size:=by have:=(Q6 HGrow4).size; rw [Q0l]; have:=hA4.size; omega
   clear HOwn4 HGrow4 hA4 G2 G2a HB2 d0 f0 e0 b0 z0
   generalize w4.setCell ⟨N,1,none⟩ (.slice a4 (j+1) e4)=w5 at *
   have d0:w5.cell? ⟨N,2,none⟩=some vg:=Qc (Q6 G4).hB 2
   have f0:=Qd (Q6 G4).hB 2
   have G4a:=Qa ((Q6 G4).alloc (.cells #[.int .i64 0] 3))
   have e0:(w5.alloc (.cells #[.int .i64 0] 3)).cell? ⟨N,2,none⟩=some vg:=Qc (Q6 G4a).hB 2
   go_wp2_with (at_builtin; refine Qe _ rfl _ _ 43 43 rfl N 3 i3 (.int .i64 0) 1 8 Tryz.underlying43 (Q6 Hi3) (Q6 Hn0) (Q6 Hn1) (Q6 Hn2) rfl vg j (List.replicate j (.int .i64 0)) (by rfl) (Q6 G4a).hg (.slice (some ⟨w5.heap.size,0,none⟩) 1 1) 1 [.int .i64 0] (by rfl) (Src.ofSlice _ Tryz.underlying43 ⟨w5.heap.size,0,none⟩ 1 1 _ rfl (Q1O _ _ _ _ rfl) (fun x hx=>by simp at hx; subst hx; rfl)) (by unfold maxLen; omega) (by omega) (by simp; omega) ?_; intro a6 e6 w6 hown6 hgrow6 hat6; have hB6:=Q02 (Q6 G4a).hg hgrow6 (Q6 G4a).hB (by decide); have b0:w6.cell? ⟨N,2,none⟩=some vg:=Qc hB6 2; have z0:=Qd hB6 2; have HOwn6:=Qa hown6; have HGrow6:=Qa hgrow6; clear hown6 hgrow6 hat6 hB6)
   go_roundg (3 - (j+1))
   case measure=>omega
   case rel =>
    have G6:=(Q6 G4a).appG (Q6 HOwn6) (Q6 HGrow6)
    have hA6:=(Below.refl N w5).alloc hs4 (.cells #[.int .i64 0] 3)
    have HB6:=(Q6 HB4).trans ((hA6.trans (Qn (Q6 G4a).hg (Q6 HGrow6) (Nat.le_trans hs4 hA6.size))).setCell (p:=⟨N,2,none⟩) (Nat.le_refl N) (.slice a6 (j+1) e6))
    refine ⟨j+1,.slice a2 (j+1) e2,.slice a4 (j+1) e4,.slice a6 (j+1) e6,Rs++[R],by go_num,by omega,rfl,Qa ?_,Qa (by rw [List.length_append,Q6 HL]; rfl),HD1,Qa HB6,?_⟩
    ·rw [List.replicate_succ',List.replicate_succ']
     exact G6
    ·have:=(Q6 HGrow6).size; rw [Q0l]; have:=hA6.size; omega
  ·have ej:j=2:=by omega
   subst ej
   obtain ⟨R0,R1,rfl⟩:∃ R0 R1,Rs=[R0,R1]:=by
    have:=Q6 HL
    match Rs,this with
    | [a,b],_=>exact ⟨a,b,rfl⟩
   go_wp2_with fail
   go_ret2
   rw [Q6 HN]
   refine ⟨vx,va,vg,R0,R1,rfl,Q6 HG,?_,Q6 HB⟩
   have:=Q6 HD
   simpa using this
structure Lw (w:World) (M B X A G cx ca cg:Nat) (xs ts gs:Array Value) (R:Nat→Nat) (p:Nat→ByteArray) (v1:Value) (n1:Nat) (o1:List Value) (v2:Value) (n2:Nat) (o2:List Value):Prop where
 hB:w.heap[B]? = some (.cells #[.slice (some ⟨X,0,none⟩) 2 cx,.slice (some ⟨A,0,none⟩) 2 ca,.slice (some ⟨G,0,none⟩) 2 cg,v1,v2] 46 (0,0))
 hX:w.heap[X]? = some (.cells xs 47 (0,0))
 hA:w.heap[A]? = some (.cells ts 9 (0,0))
 hG:w.heap[G]? = some (.cells gs 3 (0,0))
 h1:w.ownsRow M 34 1 v1 n1 o1
 h2:w.ownsRow M 34 1 v2 n2 o2
 ap:Apart v1 v2
 hF:∀ k,k < 2→FdAt w (R k) (p k)
structure Lb (N B X A G:Nat) (R:Nat→Nat) (v1 v2:Value):Prop where
 b:B < N
 x:X < N
 a:A < N
 g:G < N
 r:∀ k,k < 2→R k < N
 u1:∀ g,v1.ownBlock=some g→g < N
 u2:∀ g,v2.ownBlock=some g→g < N
section
variable {w w':World} {M B X A G cx ca cg:Nat} {xs ts gs:Array Value} {R:Nat→Nat} {p:Nat→ByteArray} {v1:Value} {n1:Nat} {o1:List Value} {v2:Value} {n2:Nat} {o2:List Value} {N:Nat}
theorem Lw.bounds (h:Lw w M B X A G cx ca cg xs ts gs R p v1 n1 o1 v2 n2 o2):Lb w.heap.size B X A G R v1 v2 :=
 ⟨Qb h.hB,Qb h.hX,Qb h.hA,Qb h.hG,fun k hk=>by obtain ⟨e,l,q,_⟩:=h.hF k hk; exact Qb q,fun g hg=>(h.h1.lt g hg).2,fun g hg=>(h.h2.lt g hg).2⟩
theorem Lb.mono {N':Nat} (h:Lb N B X A G R v1 v2) (hN:N≤N'):Lb N' B X A G R v1 v2 :=
 ⟨Nat.lt_of_lt_of_le h.b hN,Nat.lt_of_lt_of_le h.x hN,Nat.lt_of_lt_of_le h.a hN,Nat.lt_of_lt_of_le h.g hN,fun k hk=>Nat.lt_of_lt_of_le (h.r k hk) hN,fun g hg=>Nat.lt_of_lt_of_le (h.u1 g hg) hN,fun g hg=>Nat.lt_of_lt_of_le (h.u2 g hg) hN⟩
theorem Q8S {e:TypeId} {size:Nat} {v:Value} {n:Nat} {xs:List Value} (h:w.ownsRow M e size v n xs) (hv:∀ g,v.ownBlock=some g→g < N) (hb:Below N w w'):w'.ownsRow M e size v n xs:=by
 refine ⟨h.1,?_⟩
 rcases h.2 with hn | ⟨g,cap,cur,rfl,q1,q2,q3⟩
 ·exact .inl hn
 ·exact .inr ⟨g,cap,cur,rfl,q1,(hb.block g (hv g rfl)).trans q2,q3⟩
theorem FdAt.keep {R:Nat} {p:ByteArray} (h:FdAt w R p) (hb:w'.heap[R]? = w.heap[R]?):FdAt w' R p:=by
 obtain ⟨e,l,q1,q2⟩:=h
 exact ⟨e,l,hb.trans q1,q2⟩
theorem Lw.belowN (h:Lw w M B X A G cx ca cg xs ts gs R p v1 n1 o1 v2 n2 o2) (hl:Lb N B X A G R v1 v2) (hb:Below N w w'):Lw w' M B X A G cx ca cg xs ts gs R p v1 n1 o1 v2 n2 o2 :=
 ⟨(hb.block B hl.b).trans h.hB,(hb.block X hl.x).trans h.hX,(hb.block A hl.a).trans h.hA,(hb.block G hl.g).trans h.hG,Q8S h.h1 hl.u1 hb,Q8S h.h2 hl.u2 hb,h.ap,fun k hk=>(h.hF k hk).keep (hb.block _ (hl.r k hk))⟩
theorem Lw.below (h:Lw w M B X A G cx ca cg xs ts gs R p v1 n1 o1 v2 n2 o2) (hb:Below w.heap.size w w'):Lw w' M B X A G cx ca cg xs ts gs R p v1 n1 o1 v2 n2 o2:=h.belowN h.bounds hb
theorem Q2F {e t:TypeId} {size:Nat} {v:Value} {n:Nat} {l:List Value} {cs:Array Value} {fr:Nat × Nat} {Z:Nat} (h:w.ownsRow M e size v n l) (hZ:w.heap[Z]? = some (.cells cs t fr)) (hne:e≠t) (hg:w.grownBy w' (some Z)):w'.ownsRow M e size v n l:=by
 refine h.kept hg ?_
 cases hv:v.ownBlock with
 | none=>exact .inl rfl
 | some g =>
  refine .inr fun he=>?_
  cases he
  rcases h.2 with ⟨q,_⟩ | ⟨g',cap,cur,rfl,_,q,_⟩
  ·rw [q] at hv; simp [Value.ownBlock] at hv
  ·obtain rfl:g'=Z:=by simpa [Value.ownBlock] using hv
   rw [q] at hZ
   cases hZ
   exact hne rfl
theorem Q0T {t t':TypeId} {cs cs':Array Value} {fr fr':Nat × Nat} {Y Z:Nat} (h:w.heap[Y]? = some (.cells cs t fr)) (hZ:w.heap[Z]? = some (.cells cs' t' fr')) (hne:t≠t') (hg:w.grownBy w' (some Z)):w'.heap[Y]? = some (.cells cs t fr) :=
 (hg.block Y (Qb h) (fun e=>Q9d h hZ hne (by cases e; rfl))).trans h
theorem Lw.push (h:Lw w M B X A G cx ca cg xs ts gs R p v1 n1 o1 v2 n2 o2) {k:Nat} (hk:k < 2) (hR:R 0≠R 1) {q:ByteArray} (hf:FdAt w' (R k) q) (hg:w.grownBy w' (some (R k))) :
  Lw w' M B X A G cx ca cg xs ts gs R (fun i=>if i=k then q else p i) v1 n1 o1 v2 n2 o2:=by
 obtain ⟨e,l,hZ,_⟩:=h.hF k hk
 have hZ:w.heap[R k]? = some (.cells #[.string e,.string l] 66 (0,0)):=hZ
 refine ⟨Q0T h.hB hZ (by decide) hg,Q0T h.hX hZ (by decide) hg,Q0T h.hA hZ (by decide) hg,Q0T h.hG hZ (by decide) hg,Q2F h.h1 hZ (by decide) hg,Q2F h.h2 hZ (by decide) hg,h.ap,fun i hi=>?_⟩
 by_cases ei:i=k
 ·subst ei
  simp only [if_pos]
  exact hf
 ·simp only [if_neg ei]
  obtain ⟨e',l',q',_⟩:=h.hF i hi
  refine (h.hF i hi).keep (hg.block _ (Qb q') fun e=>?_)
  have e':R i=R k:=Option.some.inj e
  have:(i=0∧k=1)∨(i=1∧k=0):=by omega
  rcases this with ⟨rfl,rfl⟩ | ⟨rfl,rfl⟩
  ·exact hR e'
  ·exact hR e'.symm
theorem Lw.setA (h:Lw w M B X A G cx ca cg xs ts gs R p v1 n1 o1 v2 n2 o2) (k:Nat) (u:Value):Lw (w.setCell ⟨A,k,none⟩ u) M B X A G cx ca cg xs (ts.setIfInBounds k u) gs R p v1 n1 o1 v2 n2 o2:=by
 have hg:=Ql w A k u
 refine ⟨Q0T h.hB h.hA (by decide) hg,Q0T h.hX h.hA (by decide) hg,Qo h.hA k u,Q0T h.hG h.hA (by decide) hg,Q2F h.h1 h.hA (by decide) hg,Q2F h.h2 h.hA (by decide) hg,h.ap,fun i hi=>?_⟩
 obtain ⟨e,l,q,q2⟩:=h.hF i hi
 exact ⟨e,l,Q0T (show w.heap[R i]? = some (.cells _ _ _) from q) h.hA (by decide) hg,q2⟩
theorem Lw.setG (h:Lw w M B X A G cx ca cg xs ts gs R p v1 n1 o1 v2 n2 o2) (k:Nat) (u:Value):Lw (w.setCell ⟨G,k,none⟩ u) M B X A G cx ca cg xs ts (gs.setIfInBounds k u) R p v1 n1 o1 v2 n2 o2:=by
 have hg:=Ql w G k u
 refine ⟨Q0T h.hB h.hG (by decide) hg,Q0T h.hX h.hG (by decide) hg,Q0T h.hA h.hG (by decide) hg,Qo h.hG k u,Q2F h.h1 h.hG (by decide) hg,Q2F h.h2 h.hG (by decide) hg,h.ap,fun i hi=>?_⟩
 obtain ⟨e,l,q,q2⟩:=h.hF i hi
 exact ⟨e,l,Q0T (show w.heap[R i]? = some (.cells _ _ _) from q) h.hG (by decide) hg,q2⟩
theorem Q7Q {e:TypeId} {size:Nat} {u v:Value} {n:Nat} {l:List Value} (h:w.ownsRow M e size v n l) (hg:w.grownBy w' u.ownBlock) (ha:Apart u v):w'.ownsRow M e size v n l:=by
 refine h.kept hg ?_
 cases hv:v.ownBlock with
 | none=>exact .inl rfl
 | some g=>exact .inr fun he=>ha g he.symm hv
theorem Lw.out1 (h:Lw w M B X A G cx ca cg xs ts gs R p v1 n1 o1 v2 n2 o2) {v:Value} {n:Nat} {l:List Value} (ho:w'.ownsRow M 34 1 v n l) (hg:w.grownBy w' v1.ownBlock) (hat:v.ownBlock=v1.ownBlock∨v.ownBlock=some w.heap.size) :
  Lw (w'.setCell ⟨B,3,none⟩ v) M B X A G cx ca cg xs ts gs R p v n l v2 n2 o2:=by
 have hB:=Q02 h.h1 hg h.hB (by decide)
 have hs:=Ql w' B 3 v
 refine ⟨(Qo hB 3 v).trans rfl,Q0T (Q02 h.h1 hg h.hX (by decide)) hB (by decide) hs,Q0T (Q02 h.h1 hg h.hA (by decide)) hB (by decide) hs,Q0T (Q02 h.h1 hg h.hG (by decide)) hB (by decide) hs,Q2F ho hB (by decide) hs,Q2F (Q7Q h.h2 hg h.ap) hB (by decide) hs,fun g q1 q2=>?_,fun i hi=>?_⟩
 ·rcases hat with e | e
  ·exact h.ap g (e.symm.trans q1) q2
  ·rw [e] at q1
   cases q1
   exact absurd (h.h2.lt _ q2).2 (Nat.lt_irrefl _)
 ·obtain ⟨e,l,q,q2⟩:=h.hF i hi
  exact ⟨e,l,Q0T (Q02 h.h1 hg (show w.heap[R i]? = some (.cells _ _ _) from q) (by decide)) hB (by decide) hs,q2⟩
theorem Lw.out2 (h:Lw w M B X A G cx ca cg xs ts gs R p v1 n1 o1 v2 n2 o2) {v:Value} {n:Nat} {l:List Value} (ho:w'.ownsRow M 34 1 v n l) (hg:w.grownBy w' v2.ownBlock) (hat:v.ownBlock=v2.ownBlock∨v.ownBlock=some w.heap.size) :
  Lw (w'.setCell ⟨B,4,none⟩ v) M B X A G cx ca cg xs ts gs R p v1 n1 o1 v n l:=by
 have hB:=Q02 h.h2 hg h.hB (by decide)
 have hs:=Ql w' B 4 v
 refine ⟨(Qo hB 4 v).trans rfl,Q0T (Q02 h.h2 hg h.hX (by decide)) hB (by decide) hs,Q0T (Q02 h.h2 hg h.hA (by decide)) hB (by decide) hs,Q0T (Q02 h.h2 hg h.hG (by decide)) hB (by decide) hs,Q2F (Q7Q h.h1 hg h.ap.symm) hB (by decide) hs,Q2F ho hB (by decide) hs,fun g q1 q2=>?_,fun i hi=>?_⟩
 ·rcases hat with e | e
  ·exact h.ap g q1 (e.symm.trans q2)
  ·rw [e] at q2
   cases q2
   exact absurd (h.h1.lt _ q1).2 (Nat.lt_irrefl _)
 ·obtain ⟨e,l,q,q2⟩:=h.hF i hi
  exact ⟨e,l,Q0T (Q02 h.h2 hg (show w.heap[R i]? = some (.cells _ _ _) from q) (by decide)) hB (by decide) hs,q2⟩
end
def SFr (N A:Nat) (w w':World):Prop:=∀ (b:Nat) (cs:Array Value) (z:Nat × Nat),b < N→b≠A→w.heap[b]? = some (.cells cs 9 z)→w'.heap[b]? = some (.cells cs 9 z)
theorem SFr.refl (N A:Nat) (w:World):SFr N A w w:=fun _ _ _ _ _ h=>h
theorem SFr.trans {N A:Nat} {w w' w'':World} (h:SFr N A w w') (k:SFr N A w' w''):SFr N A w w'':=fun b cs z hb hA q=>k b cs z hb hA (h b cs z hb hA q)
theorem SFr.below {N A:Nat} {w w':World} (h:Below N w w'):SFr N A w w':=fun b _ _ hb _ q=>(h.block b hb).trans q
theorem SFr.turn {N A Z:Nat} {w w':World} {cs:Array Value} {t:TypeId} {fr:Nat × Nat} (hZ:w.heap[Z]? = some (.cells cs t fr)) (hne:9≠t) (hg:w.grownBy w' (some Z)):SFr N A w w':=fun _ _ _ _ _ q=>Q0T q hZ hne hg
theorem SFr.setA {N A:Nat} (w:World) (k:Nat) (u:Value):SFr N A w (w.setCell ⟨A,k,none⟩ u):=fun _ _ _ _ hA q=>(Qf hA k u).trans q
theorem SFr.app {N A M:Nat} {w w':World} {e:TypeId} {size:Nat} {v:Value} {n:Nat} {l:List Value} (h:w.ownsRow M e size v n l) (hne:e≠9) (hg:w.grownBy w' v.ownBlock):SFr N A w w':=fun _ _ _ _ _ q=>Q02 h hg q hne
def KFr (w w':World):Prop:=∀ (b:Nat) (cs:Array Value) (t:TypeId) (z:Nat × Nat),t≠9→t≠3→t≠66→t≠46→t≠34→w.heap[b]? = some (.cells cs t z)→w'.heap[b]? = some (.cells cs t z)
theorem KFr.refl (w:World):KFr w w:=fun _ _ _ _ _ _ _ _ _ h=>h
theorem KFr.trans {w w' w'':World} (h:KFr w w') (k:KFr w' w''):KFr w w'':=fun b cs t z h1 h2 h3 h4 h5 q=>k b cs t z h1 h2 h3 h4 h5 (h b cs t z h1 h2 h3 h4 h5 q)
theorem KFr.below {w w':World} (h:Below w.heap.size w w'):KFr w w':=fun b _ _ _ _ _ _ _ _ q=>(h.block b (Qb q)).trans q
theorem KFr.turn {Z:Nat} {w w':World} {cs:Array Value} {t:TypeId} {fr:Nat × Nat} (hZ:w.heap[Z]? = some (.cells cs t fr)) (ht:t=9∨t=3∨t=66∨t=46∨t=34) (hg:w.grownBy w' (some Z)):KFr w w':=fun _ _ t' _ h1 h2 h3 h4 h5 q=>Q0T q hZ (fun e=>by
 subst e
 rcases ht with e | e | e | e | e
 ·exact h1 e
 ·exact h2 e
 ·exact h3 e
 ·exact h4 e
 ·exact h5 e) hg
theorem KFr.app {M:Nat} {w w':World} {e:TypeId} {size:Nat} {v:Value} {n:Nat} {l:List Value} (h:w.ownsRow M e size v n l) (he:e=9∨e=34) (hg:w.grownBy w' v.ownBlock):KFr w w':=fun _ _ _ _ h1 _ _ _ h5 q=>Q02 h hg q (fun e'=>by
 subst e'
 rcases he with e | e
 ·exact h1 e
 ·exact h5 e)
end Go.Proofs.YtdhobdmhnocbgabGreatDoor
