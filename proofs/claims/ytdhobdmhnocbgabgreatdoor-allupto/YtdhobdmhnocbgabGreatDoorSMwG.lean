import Derived.Test.YtdhobdmhnocbgabGreatDoorSOnkeep
import Derived.Deep.RegionHeld3
import Derived.Deep.AppendLies
namespace Go.Proofs.YtdhobdmhnocbgabGreatDoor
open Go.RowKit Zr
def Q4N (w:World) (l:List Ev) (e:Ending) (w':World):Prop :=
 ∃ (a:Option Addr) (c:Nat),e=.returned (.slice a l.length c)∧w'.ownsRow w.heap.size 107 7 (.slice a l.length c) l.length (evC l)∧Below w.heap.size w w'
set_option maxRecDepth 100000 in
set_option maxHeartbeats 2000000 in
theorem Qev (l:List Ev) (a:Option Addr) (c N:Nat) (w:World) (hrow:RowAt w N a (evC l)) (hN:N≤w.heap.size) (hl:l.length≤33554432) (hz:Q2d l) :
  Calls Tryz.prog 90 #[.slice a l.length c] w fun e w'=>Q4N w (Q1e l) e w':=by
 have HRow:=Qa hrow
 have HZ:=Qa hz
 have HT:=Qa (QgF l)
 have HTL:=Qa (Q9F l)
 obtain ⟨i0,hi,hz0,hz1,hz2⟩:=info_parts Tryz.info107
 have Hi:=Qa hi
 have Hz0:=Qa hz0
 have Hz1:=Qa hz1
 have Hz2:=Qa hz2
 clear hi hz0 hz1 hz2 hrow hz
 obtain ⟨M,hM⟩:∃ M,w.heap.size=M:=⟨_,rfl⟩
 have HM:=Qa hM
 have hs0:M≤w.heap.size:=by omega
 rw [hM] at hN
 clear hM
 go_enter Tryz.func90,Tryz.ntmps90
 go_wp2_with fail
 go_loopg [3,4] (l.length+1) (fun g vl vi w'=>∃ (j n:Nat) (ar:Option Addr) (cr:Nat),vi=.int .i64 j∧j≤l.length∧g=l.length+1 - j∧vl=.slice ar n cr∧n≤j∧Hid ((Q1e (l.take j)).length=n)∧Hid (w'.ownsRow M 107 7 (.slice ar n cr) n (evC (Q1e (l.take j))))∧Hid (Below M w w')∧M≤w'.heap.size)
 case atStart=>exact ⟨0,0,none,0,rfl,Nat.zero_le _,rfl,rfl,Nat.le_refl _,Qa rfl,Qa (World.ownsRow_nil _ _ _ _),Qa (Below.refl _ _),hs0⟩
 case round =>
  obtain ⟨j,n,ar,cr,rfl,hj,rfl,rfl,hn,HS,HO,HB,hs⟩:=hrel
  by_cases cj:j < l.length
  ·obtain ⟨b,o,rfl,hb,x0,x1,x2,x3,x4,x5,x6⟩:=Q2K ((Q6 HRow).below ((Q6 HB).mono hN)) j cj
   obtain ⟨s1,s2,s3,s4⟩:=Q6 HZ j cj
   obtain ⟨t1,t2⟩:=Q6 HT j cj
   have key:=fun W=>Qlo l[j] W (by omega) (by omega) (by omega) (by omega)
   have T1:=Qa t1
   have T2:=Qa t2
   have Key:=Qa key
   clear t1 t2 key s1 s2 s3 s4
   obtain ⟨k,hk⟩:∃ k,l[j]=k:=⟨_,rfl⟩
   rw [hk] at T1 T2 Key x0 x1 x2 x3 x4 x5 x6
   clear hk
   unfold Ev.val at Key
   obtain ⟨kd,nd,ic,ad,pt,tx,al⟩:=k
   simp only at x0 x1 x2 x3 x4 x5 x6 Key
   go_wp2_with fail
   refine (Q6 Key _).mono ?_
   rintro e w1 ⟨⟨bb,rfl,hbb⟩,hb1⟩
   have y0:=(hb1.cell (p:=⟨b,o+j * 7,none⟩) (by show b < _; omega)).trans x0
   have y1:=(hb1.cell (p:=⟨b,o+j * 7+1,none⟩) (by show b < _; omega)).trans x1
   have y2:=(hb1.cell (p:=⟨b,o+j * 7+2,none⟩) (by show b < _; omega)).trans x2
   have y3:=(hb1.cell (p:=⟨b,o+j * 7+3,none⟩) (by show b < _; omega)).trans x3
   have y4:=(hb1.cell (p:=⟨b,o+j * 7+4,none⟩) (by show b < _; omega)).trans x4
   have y5:=(hb1.cell (p:=⟨b,o+j * 7+5,none⟩) (by show b < _; omega)).trans x5
   have y6:=(hb1.cell (p:=⟨b,o+j * 7+6,none⟩) (by show b < _; omega)).trans x6
   have HO1:=Qa (Qk (Q6 HO) hb1)
   have HB1:=Qa ((Q6 HB).trans (hb1.mono hs))
   have hs1:M≤w1.heap.size:=Nat.le_trans hs hb1.size
   have HBB:=Qa hbb
   clear hbb hb1 x0 x1 x2 x3 x4 x5 x6 HO HB Key hs
   cases bb with
   | false =>
    have ht:=Q6 T2 (fun h=>absurd ((Q6 HBB).2 h) (by simp))
    have HT2:=Qa ht
    clear ht
    go_wp2_with fail
    go_roundg (l.length+1 - (j+1))
    case measure=>omega
    case rel=>exact ⟨j+1,n,ar,cr,by go_num,by omega,rfl,rfl,by omega,Qa (by rw [Q6 HT2]; exact Q6 HS),Qa (by rw [Q6 HT2]; exact Q6 HO1),HB1,hs1⟩
   | true =>
    have ht:=Q6 T1 ((Q6 HBB).1 (by simp))
    have HT1:=Qa ht
    clear ht
    go_wp2_with (at_builtin; refine Qe _ rfl _ _ 33 33 rfl M 107 i0 (.agg #[.int .i64 0,.string ⟨#[]⟩,.int .i64 0,.string ⟨#[]⟩,.int .i64 0,.string ⟨#[]⟩,.string ⟨#[]⟩]) 7 88 Tryz.underlying33 (Q6 Hi) (Q6 Hz0) (Q6 Hz1) (Q6 Hz2) rfl (.slice ar n cr) n (evC (Q1e (l.take j))) (by rfl) ((Q6 HO1).alloc _) (.slice (some ⟨w1.heap.size,0,none⟩) 1 1) 1 [.int .i64 kd,.string nd,.int .i64 ic,.string ad,.int .i64 pt,.string tx,.string al] (by rfl) (Src.ofSlice _ Tryz.underlying33 ⟨w1.heap.size,0,none⟩ 1 1 _ rfl (Q1x _ _ _ _ _ _ _ _ _ _ rfl) Qdd) (by unfold maxLen; omega) (by omega) (by simp; omega) ?_; intro a1 e1 w2 hown2 hgrow2 hat2)
    go_roundg (l.length+1 - (j+1))
    case measure=>omega
    case rel =>
     have hA:=(Below.refl M w1).alloc hs1 (.cells #[.int .i64 kd,.string nd,.int .i64 ic,.string ad,.int .i64 pt,.string tx,.string al] 107)
     have hB2:=Qn ((Q6 HO1).alloc _) hgrow2 (Nat.le_trans hs1 hA.size)
     refine ⟨j+1,n+1,a1,e1,by go_num,by omega,rfl,rfl,by omega,Qa ?_,Qa ?_,Qa ((Q6 HB1).trans (hA.trans hB2)),Nat.le_trans hs1 (Nat.le_trans hA.size hgrow2.size)⟩
     ·rw [Q6 HT1,List.length_append,Q6 HS]; rfl
     ·rw [Q6 HT1,Q3u]; exact hown2
  ·have ej:j=l.length:=by omega
   subst ej
   have hw:Q4N w (Q1e l) (.returned (.slice ar n cr)) wr:=by
    have h1:=Q6 HS
    have h2:=Q6 HO
    rw [List.take_length] at h1 h2
    exact ⟨ar,cr,by rw [h1],by rw [h1,Q6 HM]; exact h2,by rw [Q6 HM]; exact Q6 HB⟩
   have HW:=Qa hw
   clear hw
   go_wp2_with fail
   go_ret
   exact Q6 HW
def QhB (w:World) (l:List En) (e:Ending) (w':World):Prop :=
 ∃ (a:Option Addr) (c:Nat),e=.returned (.slice a l.length c)∧w'.ownsRow w.heap.size 197 8 (.slice a l.length c) l.length (enC l)∧Below w.heap.size w w'
theorem leS {x y:ByteArray} (h:ltS y x=false):(Op.bytesLess x.toList y.toList=true)∨(Op.bytesLess x.toList y.toList=false∧(x.toList == y.toList)=true):=by
 have e:Op.bytesLess x.toList y.toList=ltS x y:=rfl
 rw [e]
 cases q:ltS x y with
 | true=>exact .inl rfl
 | false=>exact .inr ⟨rfl,Q1i (Q1T q h)⟩
theorem Qkq {x y:ByteArray} (h:ltS y x=true):Op.bytesLess x.toList y.toList=false∧(x.toList == y.toList)=false :=
 ⟨Q4k h,Q1w (Q4w h).symm⟩
theorem Qd1 {A B L:List En} {i j:Nat} (hi:i < A.length) (hj:j < B.length) (h:Q0h A B=L++Q0h (A.drop i) (B.drop j)) (hlt:ltS B[j].key A[i].key=false):Q0h A B=(L++[A[i]])++Q0h (A.drop (i+1)) (B.drop j):=by
 rw [h,List.drop_eq_getElem_cons hi,List.drop_eq_getElem_cons hj,Q4x hlt]
 simp
theorem Qd2 {A B L:List En} {i j:Nat} (hi:i < A.length) (hj:j < B.length) (h:Q0h A B=L++Q0h (A.drop i) (B.drop j)) (hlt:ltS B[j].key A[i].key=true):Q0h A B=(L++[B[j]])++Q0h (A.drop i) (B.drop (j+1)):=by
 rw [h,List.drop_eq_getElem_cons hi,List.drop_eq_getElem_cons hj,Q41 hlt]
 simp
theorem QgO {A B L:List En} {i j:Nat} (hc:¬ (i < A.length∧j < B.length)) (h:Q0h A B=L++Q0h (A.drop i) (B.drop j)):Q0h A B=L++(A.drop i++B.drop j):=by
 rw [h]
 by_cases c:i < A.length
 ·have e:B.drop j=[]:=List.drop_eq_nil_of_le (by omega)
  rw [e,QgP,List.append_nil]
 ·have e:A.drop i=[]:=List.drop_eq_nil_of_le (by omega)
  rw [e]
  simp [Q0h]
theorem Qf3 {A R L X:List En} {i:Nat} (hi:i < A.length) (h:X=L++(A.drop i++R)):X=(L++[A[i]])++(A.drop (i+1)++R):=by
 rw [h,List.drop_eq_getElem_cons hi]
 simp only [List.append_assoc,List.cons_append,List.nil_append]
set_option maxRecDepth 100000 in
set_option maxHeartbeats 4000000 in
theorem QiJ (A B:List En) (a a':Option Addr) (c c' N:Nat) (w:World) (h1:RowAt w N a (enC A)) (h2:RowAt w N a' (enC B)) (hN:N≤w.heap.size) (hl:A.length+B.length≤33554432) :
  Calls Tryz.prog 195 #[.slice a A.length c,.slice a' B.length c'] w fun e w'=>QhB w (Q0h A B) e w':=by
 have H1:=Qa h1
 have H2:=Qa h2
 obtain ⟨i0,hi,hz0,hz1,hz2⟩:=info_parts Tryz.info197
 have Hi:=Qa hi
 have Hz0:=Qa hz0
 have Hz1:=Qa hz1
 have Hz2:=Qa hz2
 clear hi hz0 hz1 hz2 h1 h2
 obtain ⟨M,hM⟩:∃ M,w.heap.size=M:=⟨_,rfl⟩
 have HM:=Qa hM
 have hs0:M≤w.heap.size:=by omega
 rw [hM] at hN
 have hlen:=Q4g A B
 have HLen:=Qa hlen
 obtain ⟨X,hX⟩:∃ X,Q0h A B=X:=⟨_,rfl⟩
 have HX:=Qa hX
 clear hM hlen
 go_enter Tryz.func195,Tryz.ntmps195
 go_wp2_with fail
 go_loopg [5,6,7] (A.length+B.length+1) (fun g vl vi vj w'=>∃ (i j:Nat) (L:List En) (ar:Option Addr) (cr:Nat),vi=.int .i64 i∧vj=.int .i64 j∧i≤A.length∧j≤B.length∧g=A.length+B.length+1 - (i+j)∧vl=.slice ar (i+j) cr∧Hid (L.length=i+j)∧Hid (Q0h A B=L++Q0h (A.drop i) (B.drop j))∧Hid (w'.ownsRow M 197 8 (.slice ar (i+j) cr) (i+j) (enC L))∧Hid (Below M w w')∧M≤w'.heap.size)
 case atStart=>exact ⟨0,0,[],none,0,rfl,rfl,Nat.zero_le _,Nat.zero_le _,rfl,rfl,Qa rfl,Qa rfl,Qa (World.ownsRow_nil _ _ _ _),Qa (Below.refl _ _),hs0⟩
 case round =>
  obtain ⟨i,j,L,ar,cr,rfl,rfl,hi,hj,rfl,rfl,HL,HX1,HO,HB,hs⟩:=hrel
  by_cases cc:i < A.length∧j < B.length
  ·obtain ⟨ci,cj⟩:=cc
   obtain ⟨b,o,rfl,hb,x0,x1,x2,x3,x4,x5,x6,x7⟩:=Qah ((Q6 H1).below ((Q6 HB).mono hN)) i ci
   obtain ⟨b',o',rfl,hb',z0,z1,z2,z3,z4,z5,z6,z7⟩:=Qah ((Q6 H2).below ((Q6 HB).mono hN)) j cj
   cases q:ltS B[j].key A[i].key with
   | true =>
    have HS:=Qa (Qd2 ci cj (Q6 HX1) q)
    obtain ⟨f1,f2⟩:=Qkq q
    clear q
    generalize A[i]=x at *
    generalize B[j]=y at *
    obtain ⟨k1,e1⟩:=x
    obtain ⟨k2,⟨kd,nd,ic,ad,pt,tx,al⟩⟩:=y
    simp only at x0 z0 z1 z2 z3 z4 z5 z6 z7 f1 f2
    have hi1:(i:Int) < (A.length:Int):=by omega
    have hi2:(j:Int) < (B.length:Int):=by omega
    go_wp2_with fail
    go_quiet (fail)
    have HOq:Hid ((wr.drewN nq).ownsRow M 197 8 (.slice ar (i+j) cr) (i+j) (enC L)):=HO
    go_wp2_with (at_builtin; refine Qe _ rfl _ _ 194 194 rfl M 197 i0 (.agg #[.string ⟨#[]⟩,.int .i64 0,.string ⟨#[]⟩,.int .i64 0,.string ⟨#[]⟩,.int .i64 0,.string ⟨#[]⟩,.string ⟨#[]⟩]) 8 104 Tryz.underlying194 (Q6 Hi) (Q6 Hz0) (Q6 Hz1) (Q6 Hz2) rfl (.slice ar (i+j) cr) (i+j) (enC L) (by rfl) ((Q6 HOq).alloc _) (.slice (some ⟨wr.heap.size,0,none⟩) 1 1) 1 [.string k2,.int .i64 kd,.string nd,.int .i64 ic,.string ad,.int .i64 pt,.string tx,.string al] (by rfl) (Src.ofSlice _ Tryz.underlying194 ⟨wr.heap.size,0,none⟩ 1 1 _ rfl (Q1W _ _ _ _ _ _ _ _ _ _ _ rfl) QeJ) (by unfold maxLen; omega) (by omega) (by simp; omega) ?_; intro a1 e1 w2 hown2 hgrow2 hat2)
    go_roundg (A.length+B.length+1 - (i+(j+1)))
    case measure=>omega
    case rel =>
     have hA:=(Below.refl M wr).alloc hs (.cells #[.string k2,.int .i64 kd,.string nd,.int .i64 ic,.string ad,.int .i64 pt,.string tx,.string al] 197)
     have hB2:=Qn ((Q6 HO).alloc (.cells #[.string k2,.int .i64 kd,.string nd,.int .i64 ic,.string ad,.int .i64 pt,.string tx,.string al] 197)) ⟨hgrow2.os,hgrow2.tape,hgrow2.output,hgrow2.size,hgrow2.block⟩ (Nat.le_trans hs hA.size)
     refine ⟨i,(j+1),L++[⟨k2,kd,nd,ic,ad,pt,tx,al⟩],a1,e1,by go_num,by go_num,by omega,by omega,rfl,by rw [show i+((j+1))=i+j+1 by omega],Qa ?_,HS,Qa ?_,Qa ((Q6 HB).trans (hA.trans hB2)),Nat.le_trans hs (Nat.le_trans hA.size hgrow2.size)⟩
     ·rw [List.length_append,Q6 HL]; simp; omega
     ·rw [Q4q,show i+((j+1))=i+j+1 by omega]; exact hown2
   | false =>
    have HS:=Qa (Qd1 ci cj (Q6 HX1) q)
    have hle:=leS q
    clear q
    generalize A[i]=x at *
    generalize B[j]=y at *
    obtain ⟨k1,⟨kd,nd,ic,ad,pt,tx,al⟩⟩:=x
    obtain ⟨k2,e2⟩:=y
    simp only at x0 x1 x2 x3 x4 x5 x6 x7 z0 hle
    have hi1:(i:Int) < (A.length:Int):=by omega
    have hi2:(j:Int) < (B.length:Int):=by omega
    rcases hle with f1 | ⟨f1,f2⟩
    ·go_wp2_with fail
     go_quiet (fail)
     have HOq:Hid ((wr.drewN nq).ownsRow M 197 8 (.slice ar (i+j) cr) (i+j) (enC L)):=HO
     go_wp2_with (at_builtin; refine Qe _ rfl _ _ 194 194 rfl M 197 i0 (.agg #[.string ⟨#[]⟩,.int .i64 0,.string ⟨#[]⟩,.int .i64 0,.string ⟨#[]⟩,.int .i64 0,.string ⟨#[]⟩,.string ⟨#[]⟩]) 8 104 Tryz.underlying194 (Q6 Hi) (Q6 Hz0) (Q6 Hz1) (Q6 Hz2) rfl (.slice ar (i+j) cr) (i+j) (enC L) (by rfl) ((Q6 HOq).alloc _) (.slice (some ⟨wr.heap.size,0,none⟩) 1 1) 1 [.string k1,.int .i64 kd,.string nd,.int .i64 ic,.string ad,.int .i64 pt,.string tx,.string al] (by rfl) (Src.ofSlice _ Tryz.underlying194 ⟨wr.heap.size,0,none⟩ 1 1 _ rfl (Q1W _ _ _ _ _ _ _ _ _ _ _ rfl) QeJ) (by unfold maxLen; omega) (by omega) (by simp; omega) ?_; intro a1 e1 w2 hown2 hgrow2 hat2)
     go_roundg (A.length+B.length+1 - ((i+1)+j))
     case measure=>omega
     case rel =>
      have hA:=(Below.refl M wr).alloc hs (.cells #[.string k1,.int .i64 kd,.string nd,.int .i64 ic,.string ad,.int .i64 pt,.string tx,.string al] 197)
      have hB2:=Qn ((Q6 HO).alloc (.cells #[.string k1,.int .i64 kd,.string nd,.int .i64 ic,.string ad,.int .i64 pt,.string tx,.string al] 197)) ⟨hgrow2.os,hgrow2.tape,hgrow2.output,hgrow2.size,hgrow2.block⟩ (Nat.le_trans hs hA.size)
      refine ⟨(i+1),j,L++[⟨k1,kd,nd,ic,ad,pt,tx,al⟩],a1,e1,by go_num,by go_num,by omega,by omega,rfl,by rw [show (i+1)+(j)=i+j+1 by omega],Qa ?_,HS,Qa ?_,Qa ((Q6 HB).trans (hA.trans hB2)),Nat.le_trans hs (Nat.le_trans hA.size hgrow2.size)⟩
      ·rw [List.length_append,Q6 HL]; simp; omega
      ·rw [Q4q,show (i+1)+(j)=i+j+1 by omega]; exact hown2
    ·go_wp2_with fail
     go_quiet (fail)
     have HOq:Hid ((wr.drewN nq).ownsRow M 197 8 (.slice ar (i+j) cr) (i+j) (enC L)):=HO
     go_wp2_with (at_builtin; refine Qe _ rfl _ _ 194 194 rfl M 197 i0 (.agg #[.string ⟨#[]⟩,.int .i64 0,.string ⟨#[]⟩,.int .i64 0,.string ⟨#[]⟩,.int .i64 0,.string ⟨#[]⟩,.string ⟨#[]⟩]) 8 104 Tryz.underlying194 (Q6 Hi) (Q6 Hz0) (Q6 Hz1) (Q6 Hz2) rfl (.slice ar (i+j) cr) (i+j) (enC L) (by rfl) ((Q6 HOq).alloc _) (.slice (some ⟨wr.heap.size,0,none⟩) 1 1) 1 [.string k1,.int .i64 kd,.string nd,.int .i64 ic,.string ad,.int .i64 pt,.string tx,.string al] (by rfl) (Src.ofSlice _ Tryz.underlying194 ⟨wr.heap.size,0,none⟩ 1 1 _ rfl (Q1W _ _ _ _ _ _ _ _ _ _ _ rfl) QeJ) (by unfold maxLen; omega) (by omega) (by simp; omega) ?_; intro a1 e1 w2 hown2 hgrow2 hat2)
     go_roundg (A.length+B.length+1 - ((i+1)+j))
     case measure=>omega
     case rel =>
      have hA:=(Below.refl M wr).alloc hs (.cells #[.string k1,.int .i64 kd,.string nd,.int .i64 ic,.string ad,.int .i64 pt,.string tx,.string al] 197)
      have hB2:=Qn ((Q6 HO).alloc (.cells #[.string k1,.int .i64 kd,.string nd,.int .i64 ic,.string ad,.int .i64 pt,.string tx,.string al] 197)) ⟨hgrow2.os,hgrow2.tape,hgrow2.output,hgrow2.size,hgrow2.block⟩ (Nat.le_trans hs hA.size)
      refine ⟨(i+1),j,L++[⟨k1,kd,nd,ic,ad,pt,tx,al⟩],a1,e1,by go_num,by go_num,by omega,by omega,rfl,by rw [show (i+1)+(j)=i+j+1 by omega],Qa ?_,HS,Qa ?_,Qa ((Q6 HB).trans (hA.trans hB2)),Nat.le_trans hs (Nat.le_trans hA.size hgrow2.size)⟩
      ·rw [List.length_append,Q6 HL]; simp; omega
      ·rw [Q4q,show (i+1)+(j)=i+j+1 by omega]; exact hown2
  ·have HE:=Qa (QgO cc (Q6 HX1))
   rw [hX] at HE
   have hcc:(A.length≤i∧decide (i < A.length)=false∧A.length≤i)∨(i < A.length∧decide (j < B.length)=false∧B.length≤j):=by
    by_cases q:i < A.length
    ·exact .inr ⟨q,decide_eq_false (by omega),by omega⟩
    ·exact .inl ⟨by omega,decide_eq_false (by omega),by omega⟩
   have HE2:Hid (∃ j2:Nat,j2=j∧X=L++(A.drop i++B.drop j2)):=Qa ⟨j,rfl,Q6 HE⟩
   clear HX1 cc HE2
   rcases hcc with ⟨hcc,hcd,hce⟩ | ⟨hcc,hcd,hce⟩
   all_goals
    go_wp2_with fail
    go_loopg [5,6] (A.length+1 - i) (fun g vl vi w'=>∃ (i j2:Nat) (L:List En) (ar:Option Addr) (cr:Nat),vi=.int .i64 i∧j2=j∧i≤A.length∧g=A.length+1 - i∧vl=.slice ar (i+j2) cr∧Hid (L.length=i+j2)∧Hid (X=L++(A.drop i++B.drop j2))∧Hid (w'.ownsRow M 197 8 (.slice ar (i+j2) cr) (i+j2) (enC L))∧Hid (Below M w w')∧M≤w'.heap.size)
    case atStart=>exact ⟨i,j,L,ar,cr,rfl,rfl,hi,rfl,rfl,HL,HE,HO,HB,hs⟩
    case round =>
     clear HL HE HO HB hs hcc hcd hce
     obtain ⟨i,j2,L,ar,cr,rfl,rfl,hi,rfl,rfl,HL,HE,HO,HB,hs⟩:=hrel
     by_cases ci:i < A.length
     ·obtain ⟨b,o,rfl,hb,x0,x1,x2,x3,x4,x5,x6,x7⟩:=Qah ((Q6 H1).below ((Q6 HB).mono hN)) i ci
      have HS:=Qa (Qf3 ci (Q6 HE))
      generalize A[i]=x at *
      obtain ⟨k1,⟨kd,nd,ic,ad,pt,tx,al⟩⟩:=x
      simp only at x0 x1 x2 x3 x4 x5 x6 x7
      go_wp2_with (at_builtin; refine Qe _ rfl _ _ 194 194 rfl M 197 i0 (.agg #[.string ⟨#[]⟩,.int .i64 0,.string ⟨#[]⟩,.int .i64 0,.string ⟨#[]⟩,.int .i64 0,.string ⟨#[]⟩,.string ⟨#[]⟩]) 8 104 Tryz.underlying194 (Q6 Hi) (Q6 Hz0) (Q6 Hz1) (Q6 Hz2) rfl (.slice ar (i+j2) cr) (i+j2) (enC L) (by rfl) ((Q6 HO).alloc _) (.slice (some ⟨wr.heap.size,0,none⟩) 1 1) 1 [.string k1,.int .i64 kd,.string nd,.int .i64 ic,.string ad,.int .i64 pt,.string tx,.string al] (by rfl) (Src.ofSlice _ Tryz.underlying194 ⟨wr.heap.size,0,none⟩ 1 1 _ rfl (Q1W _ _ _ _ _ _ _ _ _ _ _ rfl) QeJ) (by unfold maxLen; omega) (by omega) (by simp; omega) ?_; intro a1 e1 w2 hown2 hgrow2 hat2)
      go_roundg (A.length+1 - (i+1))
      case measure=>omega
      case rel =>
       have hA:=(Below.refl M wr).alloc hs (.cells #[.string k1,.int .i64 kd,.string nd,.int .i64 ic,.string ad,.int .i64 pt,.string tx,.string al] 197)
       have hB2:=Qn ((Q6 HO).alloc (.cells #[.string k1,.int .i64 kd,.string nd,.int .i64 ic,.string ad,.int .i64 pt,.string tx,.string al] 197)) hgrow2 (Nat.le_trans hs hA.size)
       refine ⟨(i+1),j2,L++[⟨k1,kd,nd,ic,ad,pt,tx,al⟩],a1,e1,by go_num,rfl,by omega,rfl,by rw [show (i+1)+(j2)=i+j2+1 by omega],Qa ?_,HS,Qa ?_,Qa ((Q6 HB).trans (hA.trans hB2)),Nat.le_trans hs (Nat.le_trans hA.size hgrow2.size)⟩
       ·rw [List.length_append,Q6 HL]; simp; omega
       ·rw [Q4q,show (i+1)+(j2)=i+j2+1 by omega]; exact hown2
     ·have ei:i=A.length:=by omega
      subst ei
      go_wp2_with fail
      have HE3:Hid (X=L++B.drop j2):=by have:=Q6 HE; rw [List.drop_length,List.nil_append] at this; exact Qa this
      clear HE
      go_loopg [5,7] (B.length+1 - j2) (fun g vl vj w'=>∃ (j:Nat) (L:List En) (ar:Option Addr) (cr:Nat),vj=.int .i64 j∧j≤B.length∧g=B.length+1 - j∧vl=.slice ar (A.length+j) cr∧Hid (L.length=A.length+j)∧Hid (X=L++B.drop j)∧Hid (w'.ownsRow M 197 8 (.slice ar (A.length+j) cr) (A.length+j) (enC L))∧Hid (Below M w w')∧M≤w'.heap.size)
      case atStart=>exact ⟨j2,L,ar,cr,rfl,hj,rfl,rfl,HL,HE3,HO,HB,hs⟩
      case round =>
       clear HL HE3 HO HB hs
       obtain ⟨j,L,ar,cr,rfl,hj,rfl,rfl,HL,HE,HO,HB,hs⟩:=hrel
       by_cases cj:j < B.length
       ·obtain ⟨b,o,rfl,hb,x0,x1,x2,x3,x4,x5,x6,x7⟩:=Qah ((Q6 H2).below ((Q6 HB).mono hN)) j cj
        have hS:X=(L++[B[j]])++B.drop (j+1):=by rw [Q6 HE,List.drop_eq_getElem_cons cj]; simp
        have HS:=Qa hS
        clear hS
        generalize B[j]=x at *
        obtain ⟨k1,⟨kd,nd,ic,ad,pt,tx,al⟩⟩:=x
        simp only at x0 x1 x2 x3 x4 x5 x6 x7
        go_wp2_with (at_builtin; refine Qe _ rfl _ _ 194 194 rfl M 197 i0 (.agg #[.string ⟨#[]⟩,.int .i64 0,.string ⟨#[]⟩,.int .i64 0,.string ⟨#[]⟩,.int .i64 0,.string ⟨#[]⟩,.string ⟨#[]⟩]) 8 104 Tryz.underlying194 (Q6 Hi) (Q6 Hz0) (Q6 Hz1) (Q6 Hz2) rfl (.slice ar (A.length+j) cr) (A.length+j) (enC L) (by rfl) ((Q6 HO).alloc _) (.slice (some ⟨wr.heap.size,0,none⟩) 1 1) 1 [.string k1,.int .i64 kd,.string nd,.int .i64 ic,.string ad,.int .i64 pt,.string tx,.string al] (by rfl) (Src.ofSlice _ Tryz.underlying194 ⟨wr.heap.size,0,none⟩ 1 1 _ rfl (Q1W _ _ _ _ _ _ _ _ _ _ _ rfl) QeJ) (by unfold maxLen; omega) (by omega) (by simp; omega) ?_; intro a1 e1 w2 hown2 hgrow2 hat2)
        go_roundg (B.length+1 - (j+1))
        case measure=>omega
        case rel =>
         have hA:=(Below.refl M wr).alloc hs (.cells #[.string k1,.int .i64 kd,.string nd,.int .i64 ic,.string ad,.int .i64 pt,.string tx,.string al] 197)
         have hB2:=Qn ((Q6 HO).alloc (.cells #[.string k1,.int .i64 kd,.string nd,.int .i64 ic,.string ad,.int .i64 pt,.string tx,.string al] 197)) hgrow2 (Nat.le_trans hs hA.size)
         refine ⟨j+1,L++[⟨k1,kd,nd,ic,ad,pt,tx,al⟩],a1,e1,by go_num,by omega,rfl,rfl,Qa ?_,HS,Qa ?_,Qa ((Q6 HB).trans (hA.trans hB2)),Nat.le_trans hs (Nat.le_trans hA.size hgrow2.size)⟩
         ·rw [List.length_append,Q6 HL]; rfl
         ·rw [Q4q]; exact hown2
       ·have ej:j=B.length:=by omega
        subst ej
        have hw:QhB w (Q0h A B) (.returned (.slice ar (A.length+B.length) cr)) wr:=by
         have h1:=Q6 HE
         rw [List.drop_length,List.append_nil] at h1
         rw [Q6 HX,h1]
         have h2:=Q6 HL
         exact ⟨ar,cr,by rw [h2],by rw [h2,Q6 HM]; exact Q6 HO,by rw [Q6 HM]; exact Q6 HB⟩
        have HW:=Qa hw
        clear hw
        go_wp2_with fail
        go_ret
        exact Q6 HW
def Q5g (w:World) (l:List En) (e:Ending) (w':World):Prop :=
 ∃ (a:Option Addr) (c:Nat),l.length≤c∧e=.returned (.slice a l.length c)∧RowAt w' w'.heap.size a (enC (Q0g l))∧Below w.heap.size w w'
theorem Qi5 (l:List En) (k:Nat):enC (l.take k)=(enC l).take (k * 8):=by
 rcases Nat.le_total l.length k with h | h
 ·rw [List.take_of_length_le h,List.take_of_length_le (by rw [Q6r]; omega)]
 ·have e:=Q70 (l.take k) (l.drop k)
  rw [List.take_append_drop] at e
  rw [e,List.take_left' (by rw [Q6r,List.length_take]; omega)]
theorem Qi4 (l:List En) (k:Nat) (h:k≤l.length):enC (l.drop k)=(enC l).drop (k * 8):=by
 have e:=Q70 (l.take k) (l.drop k)
 rw [List.take_append_drop] at e
 rw [e,List.drop_left' (by rw [Q6r,List.length_take]; omega)]
theorem RowAt.part {w:World} {N b o:Nat} {xs:List Value} (h:RowAt w N (some ⟨b,o,none⟩) xs) (k:Nat):RowAt w N (some ⟨b,o,none⟩) (xs.take k):=by
 intro hx
 obtain ⟨b',o',h1,h2,h3⟩:=h (fun e=>hx (by rw [e]; simp))
 exact ⟨b',o',h1,h2,fun j u hu=>h3 j u (by
  have hj:j < k:=by
   rcases Nat.lt_or_ge j k with q | q
   ·exact q
   ·rw [List.getElem?_eq_none (by rw [List.length_take]; omega)] at hu; cases hu
  rwa [List.getElem?_take_of_lt hj] at hu)⟩
theorem RowAt.rest {w:World} {N b o:Nat} {xs:List Value} (h:RowAt w N (some ⟨b,o,none⟩) xs) (k:Nat):RowAt w N (some ⟨b,o+k,none⟩) (xs.drop k):=by
 intro hx
 obtain ⟨b',o',h1,h2,h3⟩:=h (fun e=>hx (by rw [e]; simp))
 cases h1
 exact ⟨b,o+k,rfl,h2,fun j u hu=>by rw [List.getElem?_drop] at hu; rw [Nat.add_assoc]; exact h3 _ _ hu⟩
set_option maxRecDepth 100000 in
set_option maxHeartbeats 2000000 in
theorem QdQ:∀ (f:Nat) (l:List En) (a:Option Addr) (c N:Nat) (w:World),l.length < f→RowAt w N a (enC l)→N≤w.heap.size→l.length≤c→l.length≤33554432 →
  Calls Tryz.prog 182 #[.slice a l.length c] w fun e w'=>Q5g w l e w':=by
 intro f
 induction f with
 | zero=>intro l a c N w h; omega
 | succ f ih =>
  intro l a c N w hf hrow hN hc hl
  by_cases cs:l.length < 2
  ·have hw:Q5g w l (.returned (.slice a l.length c)) w:=⟨a,c,hc,rfl,by rw [Q80 cs]; exact hrow.mono hN,Below.refl _ _⟩
   have HW:=Qa hw
   clear hw hrow ih
   go_enter Tryz.func182,Tryz.ntmps182
   go_wp2_with fail
   go_ret
   exact Q6 HW
  ·obtain ⟨b,o,rfl,hb,_⟩:=hrow (fun e=>by have:=Q6r l; rw [e] at this; simp at this; omega)
   obtain ⟨h,hh⟩:∃ h,l.length / 2=h:=⟨_,rfl⟩
   have h1:h≤l.length:=by omega
   have h2:1≤h:=by omega
   have h3:h+h≤l.length:=by omega
   have h4:l.length≤h+h+1:=by omega
   have lt:(l.take h).length=h:=by rw [List.length_take]; omega
   have ld:(l.drop h).length=l.length - h:=by rw [List.length_drop]
   have k1:=fun W (hw:Below N w W) (hN:N≤W.heap.size)=>ih (l.take h) (some ⟨b,o,none⟩) c N W (by omega) (by rw [Qi5]; exact (hrow.below hw).part _) hN (by omega) (by omega)
   have k2:=fun W (hw:Below N w W) (hN:N≤W.heap.size)=>ih (l.drop h) (some ⟨b,o+h * 8,none⟩) (c - h) N W (by omega) (by rw [Qi4 _ _ h1]; exact (hrow.below hw).rest _) hN (by omega) (by omega)
   rw [lt] at k1
   rw [ld] at k2
   have hs:=Q6F cs
   rw [hh] at hs
   have s1:=Q0Y (l.take h)
   have s2:=Q0Y (l.drop h)
   rw [lt] at s1
   rw [ld] at s2
   have sl:=Q0Y l
   have HS:=Qa hs
   have K1:=Qa k1
   have K2:=Qa k2
   have S1:=Qa s1
   have S2:=Qa s2
   have SL:=Qa sl
   have LT:=Qa lt
   have LD:=Qa ld
   clear k1 k2 hs s1 s2 sl lt ld ih hrow
   have hh2:((l.length:Int)).tdiv 2=(h:Int):=by
    rw [Int.tdiv_eq_ediv_of_nonneg (by omega)]
    omega
   clear hh
   go_enter Tryz.func182,Tryz.ntmps182
   go_wp2_with fail
   refine (Q6 K1 _ (Below.refl _ _) hN).mono ?_
   rintro e w1 ⟨a1,c1,q1,he,r1,b1⟩
   rw [Q6 LT] at q1 he
   subst he
   have R1:=Qa r1
   have B1:=Qa b1
   have hs1:w.heap.size≤w1.heap.size:=b1.size
   clear r1 b1
   go_wp2_with fail
   refine (Q6 K2 _ ((Q6 B1).mono hN) (Nat.le_trans hN hs1)).mono ?_
   rintro e w2 ⟨a2,c2,q2,he,r2,b2⟩
   rw [Q6 LD] at q2 he
   subst he
   have R2:=Qa r2
   have R1':=Qa (((Q6 R1).below b2).mono b2.size)
   have B2:=Qa ((Q6 B1).trans (b2.mono hs1))
   have key:=QiJ (Q0g (l.take h)) (Q0g (l.drop h)) a1 a2 c1 c2 w2.heap.size w2 (Q6 R1') (Q6 R2) (Nat.le_refl _) (by rw [Q6 S1,Q6 S2]; omega)
   rw [Q6 S1,Q6 S2] at key
   have Key:=Qa key
   have hs2:w.heap.size≤w2.heap.size:=(Q6 B2).size
   clear r2 b2 key
   go_wp2_with fail
   refine (Q6 Key).mono ?_
   rintro e w3 ⟨a3,c3,rfl,o3,b3⟩
   have hw:Q5g w l (.returned (.slice a3 (Q0h (Q0g (l.take h)) (Q0g (l.drop h))).length c3)) w3:=by
    rw [←Q6 HS] at o3 ⊢
    rw [Q6 SL] at o3 ⊢
    refine ⟨a3,c3,?_,rfl,Q0u o3,(Q6 B2).trans (b3.mono hs2)⟩
    obtain ⟨_,_,_,_,hcc⟩:=Q23 o3 (by omega)
    exact hcc
   have HW:=Qa hw
   clear hw o3 b3
   go_wp2_with fail
   go_ret
   exact Q6 HW
theorem Qd6 (l:List Ev) (j:Nat) (h:j < l.length):Q1b (l.take (j+1))=Q1b (l.take j)++[⟨l[j].node,l[j]⟩]:=by
 rw [List.take_succ_eq_append_getElem h]
 unfold Q1b
 rw [List.map_append]
 rfl
set_option maxRecDepth 100000 in
set_option maxHeartbeats 2000000 in
theorem QhO (l:List Ev) (a:Option Addr) (c N:Nat) (w:World) (hrow:RowAt w N a (evC l)) (hN:N≤w.heap.size) (hl:l.length≤33554432) :
  Calls Tryz.prog 161 #[.slice a l.length c] w fun e w'=>Q5g w (Q1b l) e w':=by
 have HRow:=Qa hrow
 have HT:=Qa (Qd6 l)
 obtain ⟨i0,hi,hz0,hz1,hz2⟩:=info_parts Tryz.info197
 have Hi:=Qa hi
 have Hz0:=Qa hz0
 have Hz1:=Qa hz1
 have Hz2:=Qa hz2
 clear hi hz0 hz1 hz2 hrow
 obtain ⟨M,hM⟩:∃ M,w.heap.size=M:=⟨_,rfl⟩
 have HM:=Qa hM
 have hs0:M≤w.heap.size:=by omega
 rw [hM] at hN
 clear hM
 go_enter Tryz.func161,Tryz.ntmps161
 go_wp2_with fail
 go_loopg [3,4] (l.length+1) (fun g vl vi w'=>∃ (j:Nat) (ar:Option Addr) (cr:Nat),vi=.int .i64 j∧j≤l.length∧g=l.length+1 - j∧vl=.slice ar j cr∧Hid (w'.ownsRow M 197 8 (.slice ar j cr) j (enC (Q1b (l.take j))))∧Hid (Below M w w')∧M≤w'.heap.size)
 case atStart=>exact ⟨0,none,0,rfl,Nat.zero_le _,rfl,rfl,Qa (World.ownsRow_nil _ _ _ _),Qa (Below.refl _ _),hs0⟩
 case round =>
  obtain ⟨j,ar,cr,rfl,hj,rfl,rfl,HO,HB,hs⟩:=hrel
  by_cases cj:j < l.length
  ·obtain ⟨b,o,rfl,hb,x0,x1,x2,x3,x4,x5,x6⟩:=Q2K ((Q6 HRow).below ((Q6 HB).mono hN)) j cj
   have HT1:=Qa (Q6 HT j cj)
   generalize l[j]=k at *
   obtain ⟨kd,nd,ic,ad,pt,tx,al⟩:=k
   simp only at x0 x1 x2 x3 x4 x5 x6 HT1
   have hi1:(j:Int) < (l.length:Int):=by omega
   have HO2:Hid (((wr.alloc (.cells #[.string nd,.int .i64 kd,.string nd,.int .i64 ic,.string ad,.int .i64 pt,.string tx,.string al] 197)).drew).ownsRow M 197 8 (.slice ar j cr) j (enC (Q1b (l.take j)))):=Qa ((Q6 HO).alloc _)
   have HG2:Hid (∀ w2,World.grownBy ((wr.alloc (.cells #[.string nd,.int .i64 kd,.string nd,.int .i64 ic,.string ad,.int .i64 pt,.string tx,.string al] 197)).drew) w2 (Value.slice ar j cr).ownBlock→∀ k,w2.cell? ⟨b,k,none⟩=wr.cell? ⟨b,k,none⟩):=Qa fun w2 hg k =>
    (Q9G (Q6 HO2) hg (show b < M by omega) (show M≤(wr.alloc (.cells #[.string nd,.int .i64 kd,.string nd,.int .i64 ic,.string ad,.int .i64 pt,.string tx,.string al] 197)).heap.size by simp; omega) k).trans (Q5N wr _ (by omega) k)
   go_wp2_with fail
   go_region_held3 (fun u=>u.cell? ⟨b,o+j * 7,none⟩=some (.int .i64 kd)∧u.cell? ⟨b,o+j * 7+1,none⟩=some (.string nd)∧u.cell? ⟨b,o+j * 7+2,none⟩=some (.int .i64 ic)∧u.cell? ⟨b,o+j * 7+3,none⟩=some (.string ad)∧u.cell? ⟨b,o+j * 7+4,none⟩=some (.int .i64 pt)∧u.cell? ⟨b,o+j * 7+5,none⟩=some (.string tx)∧u.cell? ⟨b,o+j * 7+6,none⟩=some (.string al)) (go_keep)
    (first | (refine step_append_lies _ rfl _ _ 194 rfl M 197 i0 (.agg #[.string ⟨#[]⟩,.int .i64 0,.string ⟨#[]⟩,.int .i64 0,.string ⟨#[]⟩,.int .i64 0,.string ⟨#[]⟩,.string ⟨#[]⟩]) 8 104 Tryz.underlying194 (Q6 Hi) (Q6 Hz0) (Q6 Hz1) (Q6 Hz2) rfl (by decide) (.slice ar j cr) j (enC (Q1b (l.take j))) (by rfl) (Q6 HO2) ⟨wr.heap.size,0,none⟩ 1 1 [.string nd,.int .i64 kd,.string nd,.int .i64 ic,.string ad,.int .i64 pt,.string tx,.string al] (by rfl) (by rfl) (Q1W _ _ _ _ _ _ _ _ _ _ _ rfl) QeJ (by omega) (by unfold maxLen; omega) (by omega) (by simp; omega) _ rfl ?_; intro g1 e1 w2 hown2 hgrow2 hat2 hlt2; have y0:=(Q6 HG2 w2 hgrow2 _).trans x0; have y1:=(Q6 HG2 w2 hgrow2 _).trans x1; have y2:=(Q6 HG2 w2 hgrow2 _).trans x2; have y3:=(Q6 HG2 w2 hgrow2 _).trans x3; have y4:=(Q6 HG2 w2 hgrow2 _).trans x4; have y5:=(Q6 HG2 w2 hgrow2 _).trans x5; have y6:=(Q6 HG2 w2 hgrow2 _).trans x6))
   go_wp2_with fail
   go_roundg (l.length+1 - (j+1))
   case measure=>omega
   case rel =>
    have hA:=(Below.refl M wr).alloc hs (.cells #[.string nd,.int .i64 kd,.string nd,.int .i64 ic,.string ad,.int .i64 pt,.string tx,.string al] 197)
    have hB2:=Qn (Q6 HO2) hgrow2 (show M≤(wr.alloc (.cells #[.string nd,.int .i64 kd,.string nd,.int .i64 ic,.string ad,.int .i64 pt,.string tx,.string al] 197)).heap.size by simp; omega)
    refine ⟨j+1,some ⟨g1,0,none⟩,e1,by go_num,by omega,rfl,rfl,Qa ?_,Qa ((Q6 HB).trans (hA.trans ⟨hB2.os,hB2.tape,hB2.output,hB2.size,hB2.block⟩)),Nat.le_trans hs (Nat.le_trans hA.size hB2.size)⟩
    rw [Q6 HT1,Q4q]
    exact hown2
  ·have ej:j=l.length:=by omega
   subst ej
   have ho:=Q6 HO
   rw [List.take_length] at ho
   have hln:(Q1b l).length=l.length:=by unfold Q1b; rw [List.length_map]
   have hcap:l.length≤cr:=by
    rcases Nat.eq_zero_or_pos l.length with h0 | h0
    ·omega
    ·obtain ⟨_,_,_,_,h⟩:=Q23 ho h0; exact h
   have key:=QdQ (l.length+1) (Q1b l) ar cr wr.heap.size wr (by omega) (Q0u ho) (Nat.le_refl _) (by omega) (by omega)
   rw [hln] at key
   have Key:=Qa key
   clear key ho HO
   go_wp2_with fail
   refine (Q6 Key).mono ?_
   rintro e w1 ⟨a1,c1,q1,rfl,r1,b1⟩
   have hw:Q5g w (Q1b l) (.returned (.slice a1 l.length c1)) w1:=⟨a1,c1,q1,by rw [hln],r1,by rw [Q6 HM]; exact (Q6 HB).trans (b1.mono hs)⟩
   have HW:=Qa hw
   clear hw r1 b1
   go_wp2_with fail
   go_ret
   exact Q6 HW
theorem Qe9 (l:List Ev) (j:Nat) (h:j < l.length):(l[j].alias≠⟨#[]⟩→Q0d (l.take (j+1))=Q0d (l.take j)++[⟨l[j].alias,l[j]⟩])∧(l[j].alias=⟨#[]⟩→Q0d (l.take (j+1))=Q0d (l.take j)):=by
 rw [List.take_succ_eq_append_getElem h]
 unfold Q0d
 rw [List.filter_append,List.map_append]
 refine ⟨fun hg=>?_,fun hg=>?_⟩
 ·rw [List.filter_cons_of_pos (by simpa using hg)]; rfl
 ·rw [List.filter_cons_of_neg (by simpa using hg)]; simp
theorem Q4V (l:List Ev) (j:Nat):(Q0d (l.take j)).length≤j:=by
 unfold Q0d
 rw [List.length_map]
 have:=List.length_filter_le (fun e:Ev=>decide (e.alias≠⟨#[]⟩)) (l.take j)
 rw [List.length_take] at this
 omega
set_option maxRecDepth 100000 in
set_option maxHeartbeats 2000000 in
theorem Qgv (l:List Ev) (a:Option Addr) (c N:Nat) (w:World) (hrow:RowAt w N a (evC l)) (hN:N≤w.heap.size) (hl:l.length≤33554432) :
  Calls Tryz.prog 163 #[.slice a l.length c] w fun e w'=>Q5g w (Q0d l) e w':=by
 have HRow:=Qa hrow
 have HT:=Qa (Qe9 l)
 have HTL:=Qa (Q4V l)
 obtain ⟨i0,hi,hz0,hz1,hz2⟩:=info_parts Tryz.info197
 have Hi:=Qa hi
 have Hz0:=Qa hz0
 have Hz1:=Qa hz1
 have Hz2:=Qa hz2
 clear hi hz0 hz1 hz2 hrow
 obtain ⟨M,hM⟩:∃ M,w.heap.size=M:=⟨_,rfl⟩
 have HM:=Qa hM
 have hs0:M≤w.heap.size:=by omega
 rw [hM] at hN
 clear hM
 go_enter Tryz.func163,Tryz.ntmps163
 go_wp2_with fail
 go_loopg [3,4] (l.length+1) (fun g vl vi w'=>∃ (j n:Nat) (ar:Option Addr) (cr:Nat),vi=.int .i64 j∧j≤l.length∧g=l.length+1 - j∧vl=.slice ar n cr∧n≤j∧Hid ((Q0d (l.take j)).length=n)∧Hid (w'.ownsRow M 197 8 (.slice ar n cr) n (enC (Q0d (l.take j))))∧Hid (Below M w w')∧M≤w'.heap.size)
 case atStart=>exact ⟨0,0,none,0,rfl,Nat.zero_le _,rfl,rfl,Nat.le_refl _,Qa rfl,Qa (World.ownsRow_nil _ _ _ _),Qa (Below.refl _ _),hs0⟩
 case round =>
  obtain ⟨j,n,ar,cr,rfl,hj,rfl,rfl,hn,HS,HO,HB,hs⟩:=hrel
  by_cases cj:j < l.length
  ·obtain ⟨b,o,rfl,hb,x0,x1,x2,x3,x4,x5,x6⟩:=Q2K ((Q6 HRow).below ((Q6 HB).mono hN)) j cj
   obtain ⟨t1,t2⟩:=Q6 HT j cj
   have T1:=Qa t1
   have T2:=Qa t2
   clear t1 t2
   generalize l[j]=k at *
   obtain ⟨kd,nd,ic,ad,pt,tx,al⟩:=k
   simp only at x0 x1 x2 x3 x4 x5 x6 T1 T2
   by_cases ca:al=⟨#[]⟩
   ·have e0:al.toList.isEmpty=true:=(Q17 al).2 ca
    have HT2:=Qa (Q6 T2 ca)
    clear ca
    go_wp2_with fail
    go_roundg (l.length+1 - (j+1))
    case measure=>omega
    case rel=>exact ⟨j+1,n,ar,cr,by go_num,by omega,rfl,rfl,by omega,Qa (by rw [Q6 HT2]; exact Q6 HS),Qa (by rw [Q6 HT2]; exact Q6 HO),HB,hs⟩
   ·have e0:al.toList.isEmpty=false:=by
     cases e:al.toList.isEmpty with
     | false=>rfl
     | true=>exact absurd ((Q17 al).1 e) ca
    have HT1:=Qa (Q6 T1 ca)
    clear ca
    have hi1:(j:Int) < (l.length:Int):=by omega
    have HO2:Hid (((wr.alloc (.cells #[.string al,.int .i64 kd,.string nd,.int .i64 ic,.string ad,.int .i64 pt,.string tx,.string al] 197)).drew).ownsRow M 197 8 (.slice ar n cr) n (enC (Q0d (l.take j)))):=Qa ((Q6 HO).alloc _)
    have HG2:Hid (∀ w2,World.grownBy ((wr.alloc (.cells #[.string al,.int .i64 kd,.string nd,.int .i64 ic,.string ad,.int .i64 pt,.string tx,.string al] 197)).drew) w2 (Value.slice ar n cr).ownBlock→∀ k,w2.cell? ⟨b,k,none⟩=wr.cell? ⟨b,k,none⟩):=Qa fun w2 hg k =>
     (Q9G (Q6 HO2) hg (show b < M by omega) (show M≤(wr.alloc (.cells #[.string al,.int .i64 kd,.string nd,.int .i64 ic,.string ad,.int .i64 pt,.string tx,.string al] 197)).heap.size by simp; omega) k).trans (Q5N wr _ (by omega) k)
    go_wp2_with fail
    go_region_held3 (fun u=>u.cell? ⟨b,o+j * 7,none⟩=some (.int .i64 kd)∧u.cell? ⟨b,o+j * 7+1,none⟩=some (.string nd)∧u.cell? ⟨b,o+j * 7+2,none⟩=some (.int .i64 ic)∧u.cell? ⟨b,o+j * 7+3,none⟩=some (.string ad)∧u.cell? ⟨b,o+j * 7+4,none⟩=some (.int .i64 pt)∧u.cell? ⟨b,o+j * 7+5,none⟩=some (.string tx)∧u.cell? ⟨b,o+j * 7+6,none⟩=some (.string al)) (go_keep)
     (first | (refine step_append_lies _ rfl _ _ 194 rfl M 197 i0 (.agg #[.string ⟨#[]⟩,.int .i64 0,.string ⟨#[]⟩,.int .i64 0,.string ⟨#[]⟩,.int .i64 0,.string ⟨#[]⟩,.string ⟨#[]⟩]) 8 104 Tryz.underlying194 (Q6 Hi) (Q6 Hz0) (Q6 Hz1) (Q6 Hz2) rfl (by decide) (.slice ar n cr) n (enC (Q0d (l.take j))) (by rfl) (Q6 HO2) ⟨wr.heap.size,0,none⟩ 1 1 [.string al,.int .i64 kd,.string nd,.int .i64 ic,.string ad,.int .i64 pt,.string tx,.string al] (by rfl) (by rfl) (Q1W _ _ _ _ _ _ _ _ _ _ _ rfl) QeJ (by omega) (by unfold maxLen; omega) (by omega) (by simp; omega) _ rfl ?_; intro g1 e1 w2 hown2 hgrow2 hat2 hlt2; have y0:=(Q6 HG2 w2 hgrow2 _).trans x0; have y1:=(Q6 HG2 w2 hgrow2 _).trans x1; have y2:=(Q6 HG2 w2 hgrow2 _).trans x2; have y3:=(Q6 HG2 w2 hgrow2 _).trans x3; have y4:=(Q6 HG2 w2 hgrow2 _).trans x4; have y5:=(Q6 HG2 w2 hgrow2 _).trans x5; have y6:=(Q6 HG2 w2 hgrow2 _).trans x6))
    go_wp2_with fail
    go_roundg (l.length+1 - (j+1))
    case measure=>omega
    case rel =>
     have hA:=(Below.refl M wr).alloc hs (.cells #[.string al,.int .i64 kd,.string nd,.int .i64 ic,.string ad,.int .i64 pt,.string tx,.string al] 197)
     have hB2:=Qn (Q6 HO2) hgrow2 (show M≤(wr.alloc (.cells #[.string al,.int .i64 kd,.string nd,.int .i64 ic,.string ad,.int .i64 pt,.string tx,.string al] 197)).heap.size by simp; omega)
     refine ⟨j+1,n+1,some ⟨g1,0,none⟩,e1,by go_num,by omega,rfl,rfl,by omega,Qa (by rw [Q6 HT1,List.length_append,Q6 HS]; rfl),Qa ?_,Qa ((Q6 HB).trans (hA.trans ⟨hB2.os,hB2.tape,hB2.output,hB2.size,hB2.block⟩)),Nat.le_trans hs (Nat.le_trans hA.size hB2.size)⟩
     rw [Q6 HT1,Q4q]
     exact hown2
  ·have ej:j=l.length:=by omega
   subst ej
   have ho:=Q6 HO
   rw [List.take_length] at ho
   have hln:=Q6 HS
   rw [List.take_length] at hln
   have hcap:n≤cr:=by
    rcases Nat.eq_zero_or_pos n with h0 | h0
    ·omega
    ·obtain ⟨_,_,_,_,h⟩:=Q23 ho h0; exact h
   have key:=QdQ (n+1) (Q0d l) ar cr wr.heap.size wr (by omega) (Q0u ho) (Nat.le_refl _) (by omega) (by omega)
   rw [hln] at key
   have Key:=Qa key
   have HLN:=Qa hln
   clear key ho HO hln
   go_wp2_with fail
   refine (Q6 Key).mono ?_
   rintro e w1 ⟨a1,c1,q1,he,r1,b1⟩
   rw [Q6 HLN] at he
   subst he
   have hw:Q5g w (Q0d l) (.returned (.slice a1 n c1)) w1:=⟨a1,c1,q1,by rw [Q6 HLN],r1,by rw [Q6 HM]; exact (Q6 HB).trans (b1.mono hs)⟩
   have HW:=Qa hw
   clear hw r1 b1
   go_wp2_with fail
   go_ret
   exact Q6 HW
end Go.Proofs.YtdhobdmhnocbgabGreatDoor
