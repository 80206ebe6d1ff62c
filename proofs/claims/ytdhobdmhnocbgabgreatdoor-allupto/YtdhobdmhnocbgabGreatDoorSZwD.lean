import Derived.Test.YtdhobdmhnocbgabGreatDoorSMwC
import Derived.Test.YtdhobdmhnocbgabGreatDoorSOnkeep
import Derived.Deep.RegionHeld3
import Derived.Test.YtdhobdmhnocbgabGreatDoorSMwG
namespace Go.Proofs.YtdhobdmhnocbgabGreatDoor
open Go.RowKit Zr
set_option maxRecDepth 100000 in
set_option maxHeartbeats 2000000 in
theorem Qa9 (a b:Ev) (w:World):Calls Tryz.prog 133 #[a.val,b.val] w fun r w'=>Q1V (Q16 a b) r∧Below w.heap.size w w':=by
 have HB:Hid (∀ O1 O2,Below w.heap.size w ((w.alloc O1).alloc O2)):=Qa (QbM w)
 by_cases cg:a.inc=b.inc∧a.kind=b.kind∧a.kind=2
 ·obtain ⟨c1,c2,c3⟩:=cg
  have hno:=Qdr c1 c2 c3
  have HNo:=Qa hno
  clear hno
  generalize Q16 a b=G at *
  obtain ⟨k1,n1,i1,a1,p1,t1,l1⟩:=a
  obtain ⟨k2,n2,i2,a2,p2,t2,l2⟩:=b
  unfold Ev.val
  simp only at c1 c2 c3 ⊢
  have e1:=Q4G c1
  have e2:=Q4G c2
  have e3:(k1 == 2)=true:=by rw [beq_iff_eq]; exact c3
  clear c1 c2 c3
  go_enter Tryz.func133,Tryz.ntmps133
  go_wp2_with fail
  go_ret
  exact ⟨⟨_,rfl,⟨fun h=>by simp at h,fun h=>absurd h (Q6 HNo)⟩⟩,Q6 HB _ _⟩
 have cg':a.inc=b.inc→a.kind=b.kind→a.kind≠2:=fun h1 h2 h3=>cg ⟨h1,h2,h3⟩
 rw [Qcj cg']
 clear cg
 have b1:=@Qb9 a b
 have b2:=@Q9o a b
 have b3:=@Q9n a b
 have b4:=@Q9p a b
 have b5:=@Q9q a b
 have b6:=@Q8G a b
 generalize Q19 a b=G at *
 obtain ⟨k1,n1,i1,a1,p1,t1,l1⟩:=a
 obtain ⟨k2,n2,i2,a2,p2,t2,l2⟩:=b
 unfold Ev.val
 simp only at b1 b2 b3 b4 b5 b6 cg' ⊢
 by_cases c1:i1=i2
 ·have e1:=Q4G c1
  by_cases c2:k1=k2
  ·have e2:=Q4G c2
   have e9:(k1 == 2)=false:=beq_eq_false_iff_ne.2 (cg' c1 c2)
   clear cg'
   by_cases c3:a1=a2
   ·have e3:=Q1i c3
    by_cases c4:p1=p2
    ·have e4:=Q4G c4
     by_cases c5:t1=t2
     ·have e5:=Q1i c5
      have hg:=Qa ((QgG l1 l2).trans (b6 c1 c2 c3 c4 c5).symm)
      clear b1 b2 b3 b4 b5 b6 c1 c2 c3 c4 c5
      go_enter Tryz.func133,Tryz.ntmps133
      go_wp2_with fail
      go_ret
      exact ⟨⟨_,rfl,Q6 hg⟩,Q6 HB _ _⟩
     ·have e5:=Q1w c5
      have hg:=Qa ((QgG t1 t2).trans (b5 c1 c2 c3 c4 c5).symm)
      clear b1 b2 b3 b4 b5 b6 c1 c2 c3 c4 c5
      go_enter Tryz.func133,Tryz.ntmps133
      go_wp2_with fail
      go_ret
      refine ⟨⟨_,rfl,?_⟩,Q6 HB _ _⟩
      rw [←Q6 hg]
      simp [e5]
    ·have e4:=Q6v c4
     have hg:=Qa (b4 c1 c2 c3 c4)
     clear b1 b2 b3 b4 b5 b6 c1 c2 c3 c4
     go_enter Tryz.func133,Tryz.ntmps133
     go_wp2_with fail
     go_ret
     refine ⟨⟨_,rfl,?_⟩,Q6 HB _ _⟩
     rw [Q6 hg]
     simp
   ·have e3:=Q1w c3
    have hg:=Qa ((QgG a1 a2).trans (b3 c1 c2 c3).symm)
    clear b1 b2 b3 b4 b5 b6 c1 c2 c3
    go_enter Tryz.func133,Tryz.ntmps133
    go_wp2_with fail
    go_ret
    refine ⟨⟨_,rfl,?_⟩,Q6 HB _ _⟩
    rw [←Q6 hg]
    simp [e3]
  ·have e2:=Q6v c2
   have hg:=Qa (b2 c1 c2)
   clear b1 b2 b3 b4 b5 b6 c1 c2 cg'
   go_enter Tryz.func133,Tryz.ntmps133
   go_wp2_with fail
   go_ret
   refine ⟨⟨_,rfl,?_⟩,Q6 HB _ _⟩
   rw [Q6 hg]
   simp
 ·have e1:=Q6v c1
  have hg:=Qa (b1 c1)
  clear b1 b2 b3 b4 b5 b6 c1 cg'
  go_enter Tryz.func133,Tryz.ntmps133
  go_wp2_with fail
  go_ret
  refine ⟨⟨_,rfl,?_⟩,Q6 HB _ _⟩
  rw [Q6 hg]
  simp
theorem Qef {l:List Ev} {i k:Nat} (hi:i < l.length) (hk:k < l.length):Q4R l i k↔Q2i l[k]∧l[k].node=l[i].node∧(Q16 l[k] l[i]∨(¬ Q16 l[i] l[k]∧k < i)):=by
 unfold Q4R
 rw [Q4c hi,Q4c hk]
theorem Qem {l:List Ev} {i:Nat} (hi:i < l.length):Q38 l i↔Q2i l[i]∧∀ k,k < l.length→¬ Q4R l i k:=by
 unfold Q38
 rw [Q4c hi]
set_option maxRecDepth 100000 in
set_option maxHeartbeats 4000000 in
theorem Qel (l:List Ev) (a:Option Addr) (c N i:Nat) (w:World) (hrow:RowAt w N a (evC l)) (hN:N≤w.heap.size) (hl:l.length≤33554432) (hz:Q2d l) (hi:i < l.length) :
  Calls Tryz.prog 98 #[.slice a l.length c,.int .i64 i] w fun e w'=>Q1V (Q38 l i) e∧Below w.heap.size w w':=by
 obtain ⟨b,o,rfl,hb,x0,x1,x2,x3,x4,x5,x6⟩:=Q2K hrow i hi
 have HRow:=Qa (fun W (h:Below N w W)=>hrow.below h)
 obtain ⟨s1,s2,s3,s4⟩:=hz i hi
 have kg:=fun W=>Q9E l[i] W (by omega) (by omega) (by omega) (by omega)
 have hci:=Qem hi
 have hbi:=fun k hk=>@Qef l i k hi hk
 obtain ⟨x,hx⟩:∃ x,l[i]=x:=⟨_,rfl⟩
 rw [hx] at x0 x1 x2 x3 x4 x5 x6 kg hci
 have hbi':∀ k (hk:k < l.length),Q4R l i k↔Q2i l[k]∧l[k].node=x.node∧(Q16 l[k] x∨(¬ Q16 x l[k]∧k < i)):=fun k hk=>by have:=hbi k hk; rw [hx] at this; exact this
 have HXq:=Qa hx
 have HZ:=Qa hz
 have HBi:=Qa hbi'
 have HCi:=Qa hci
 have Kg:=Qa kg
 clear hz hbi hbi' hci kg s1 s2 s3 s4 hx hrow
 obtain ⟨kd,nd,ic,ad,pt,tx,al⟩:=x
 unfold Ev.val at Kg
 simp only at x0 x1 x2 x3 x4 x5 x6 HBi HCi Kg
 have hi1:(i:Int) < (l.length:Int):=by omega
 have hi0:(0:Int)≤(i:Int):=by omega
 obtain ⟨C,hC⟩:∃ C,Q38 l i=C:=⟨_,rfl⟩
 rw [hC] at HCi ⊢
 clear hC
 go_enter Tryz.func98,Tryz.ntmps98
 go_wp2_with fail
 refine (Q6 Kg _).mono ?_
 rintro e w1 ⟨⟨bb,rfl,hbb⟩,hb1⟩
 have HBB:=Qa hbb
 have HB1:=Qa hb1
 clear hbb hb1
 cases bb with
 | false =>
  go_wp2_with fail
  go_ret
  exact ⟨⟨_,rfl,⟨fun h=>by simp at h,fun h=>absurd ((Q6 HBB).2 ((Q6 HCi).1 h).1) (by simp)⟩⟩,Q6 HB1⟩
 | true =>
  have hgood:=(Q6 HBB).1 (by simp)
  have HGood:=Qa hgood
  clear hgood HBB
  go_wp2_with fail
  clear x0 x1 x2 x3 x4 x5 x6 Kg
  obtain ⟨M,hM⟩:∃ M,w.heap.size=M:=⟨_,rfl⟩
  rw [hM] at HB1 hN
  have HM:=Qa hM
  have hs1:M≤w1.heap.size:=by have:=(Q6 HB1).size; omega
  clear hM
  go_loopw [6] (fun vk w'=>∃ (j:Nat),j≤l.length∧vk=.int .i64 j∧Hid (∀ k,k < l.length→k < j→¬ Q4R l i k)∧Hid (Below M w w')∧M≤w'.heap.size) (fun vk _=>l.length - (intOf vk).toNat)
  case atStart=>exact ⟨0,Nat.zero_le _,rfl,Qa (fun k _ hk=>by omega),HB1,hs1⟩
  case round =>
   clear HB1 hs1
   obtain ⟨j,hj,rfl,HNo,HB,hs⟩:=hrel
   by_cases cj:j < l.length
   ·obtain ⟨b',o',he,_,x0,x1,x2,x3,x4,x5,x6⟩:=Q2K (Q6 HRow _ ((Q6 HB).mono hN)) i hi
    cases he
    rw [Q6 HXq] at x0 x1 x2 x3 x4 x5 x6
    simp only at x0 x1 x2 x3 x4 x5 x6
    obtain ⟨b',o',he,_,z0,z1,z2,z3,z4,z5,z6⟩:=Q2K (Q6 HRow _ ((Q6 HB).mono hN)) j cj
    cases he
    obtain ⟨s1,s2,s3,s4⟩:=Q6 HZ j cj
    have kg:=fun W=>Q9E l[j] W (by omega) (by omega) (by omega) (by omega)
    have hbj:=Q6 HBi j cj
    have hNo2:¬ Q4R l i j→∀ k,k < l.length→k < j+1→¬ Q4R l i k:=fun h k hk hkj=>by
     rcases Nat.lt_or_ge k j with q | q
     ·exact Q6 HNo k hk q
     ·have:k=j:=by omega
      subst this
      exact h
    have hYes:Q4R l i j→¬ C:=fun h h2=>((Q6 HCi).1 h2).2 j cj h
    have HNo2:=Qa hNo2
    have HYes:=Qa hYes
    have hxi:l[i]'hi=⟨kd,nd,ic,ad,pt,tx,al⟩∨True:=.inr trivial
    clear hxi hNo2 hYes
    generalize Q4R l i j=Bt at *
    obtain ⟨y,hy⟩:∃ y,l[j]=y:=⟨_,rfl⟩
    rw [hy] at z0 z1 z2 z3 z4 z5 z6 kg hbj
    clear hy s1 s2 s3 s4
    have kr1:=fun W=>Qa9 y ⟨kd,nd,ic,ad,pt,tx,al⟩ W
    have kr2:=fun W=>Qa9 ⟨kd,nd,ic,ad,pt,tx,al⟩ y W
    generalize Q16 y ⟨kd,nd,ic,ad,pt,tx,al⟩=Ov at *
    generalize Q16 ⟨kd,nd,ic,ad,pt,tx,al⟩ y=Un at *
    obtain ⟨Gd,hGd⟩:∃ G,Q2i y=G:=⟨_,rfl⟩
    rw [hGd] at kg hbj
    clear hGd
    obtain ⟨kd2,nd2,ic2,ad2,pt2,tx2,al2⟩:=y
    unfold Ev.val at kg kr1 kr2
    simp only at z0 z1 z2 z3 z4 z5 z6 kg kr1 kr2 hbj
    have Kg:=Qa kg
    have Kr1:=Qa kr1
    have Kr2:=Qa kr2
    have HBj:=Qa hbj
    clear kg kr1 kr2 hbj
    have hj1:(j:Int) < (l.length:Int):=by omega
    have hj0:(0:Int)≤(j:Int):=by omega
    go_wp2_with fail
    refine (Q6 Kg _).mono ?_
    rintro e w2 ⟨⟨bb,rfl,hbb⟩,hb2⟩
    have y0:=(hb2.cell (p:=⟨b,o+i * 7,none⟩) (show b < wr.heap.size by omega)).trans x0
    have y1:=(hb2.cell (p:=⟨b,o+i * 7+1,none⟩) (show b < wr.heap.size by omega)).trans x1
    have y2:=(hb2.cell (p:=⟨b,o+i * 7+2,none⟩) (show b < wr.heap.size by omega)).trans x2
    have y3:=(hb2.cell (p:=⟨b,o+i * 7+3,none⟩) (show b < wr.heap.size by omega)).trans x3
    have y4:=(hb2.cell (p:=⟨b,o+i * 7+4,none⟩) (show b < wr.heap.size by omega)).trans x4
    have y5:=(hb2.cell (p:=⟨b,o+i * 7+5,none⟩) (show b < wr.heap.size by omega)).trans x5
    have y6:=(hb2.cell (p:=⟨b,o+i * 7+6,none⟩) (show b < wr.heap.size by omega)).trans x6
    have v0:=(hb2.cell (p:=⟨b,o+j * 7,none⟩) (show b < wr.heap.size by omega)).trans z0
    have v1:=(hb2.cell (p:=⟨b,o+j * 7+1,none⟩) (show b < wr.heap.size by omega)).trans z1
    have v2:=(hb2.cell (p:=⟨b,o+j * 7+2,none⟩) (show b < wr.heap.size by omega)).trans z2
    have v3:=(hb2.cell (p:=⟨b,o+j * 7+3,none⟩) (show b < wr.heap.size by omega)).trans z3
    have v4:=(hb2.cell (p:=⟨b,o+j * 7+4,none⟩) (show b < wr.heap.size by omega)).trans z4
    have v5:=(hb2.cell (p:=⟨b,o+j * 7+5,none⟩) (show b < wr.heap.size by omega)).trans z5
    have v6:=(hb2.cell (p:=⟨b,o+j * 7+6,none⟩) (show b < wr.heap.size by omega)).trans z6
    have HB2:=Qa ((Q6 HB).trans (hb2.mono hs))
    have hs2:M≤w2.heap.size:=Nat.le_trans hs hb2.size
    have HBB:=Qa hbb
    clear hbb hb2 HB Kg x0 x1 x2 x3 x4 x5 x6 z0 z1 z2 z3 z4 z5 z6
    by_cases cq:bb=true∧nd2=nd
    ·obtain ⟨rfl,cn⟩:=cq
     have f1:=Q1i cn
     have hbt:Bt↔(Ov∨(¬ Un∧j < i)):=⟨fun h=>((Q6 HBj).1 h).2.2,fun h=>(Q6 HBj).2 ⟨(Q6 HBB).1 (by simp),cn,h⟩⟩
     have HBt:=Qa hbt
     clear hbt cn HBj
     go_wp2_with fail
     go_quiet (fail)
     go_wp2_with fail
     go_region_held3 (fun u=>u.cell? ⟨b,o+i * 7,none⟩=some (.int .i64 kd)∧u.cell? ⟨b,o+i * 7+1,none⟩=some (.string nd)∧u.cell? ⟨b,o+i * 7+2,none⟩=some (.int .i64 ic)∧u.cell? ⟨b,o+i * 7+3,none⟩=some (.string ad)∧u.cell? ⟨b,o+i * 7+4,none⟩=some (.int .i64 pt)∧u.cell? ⟨b,o+i * 7+5,none⟩=some (.string tx)∧u.cell? ⟨b,o+i * 7+6,none⟩=some (.string al)∧u.cell? ⟨b,o+j * 7,none⟩=some (.int .i64 kd2)∧u.cell? ⟨b,o+j * 7+1,none⟩=some (.string nd2)∧u.cell? ⟨b,o+j * 7+2,none⟩=some (.int .i64 ic2)∧u.cell? ⟨b,o+j * 7+3,none⟩=some (.string ad2)∧u.cell? ⟨b,o+j * 7+4,none⟩=some (.int .i64 pt2)∧u.cell? ⟨b,o+j * 7+5,none⟩=some (.string tx2)∧u.cell? ⟨b,o+j * 7+6,none⟩=some (.string al2)) (go_keep)
      (first | (go_at_call 133; refine (Q6 Kr1 _).mono ?_; rintro e w3 ⟨⟨ov,rfl,hov⟩,hb3⟩; have x0:=(hb3.cell (p:=⟨b,o+i * 7,none⟩) (show b < w2.heap.size by omega)).trans y0; have x1:=(hb3.cell (p:=⟨b,o+i * 7+1,none⟩) (show b < w2.heap.size by omega)).trans y1; have x2:=(hb3.cell (p:=⟨b,o+i * 7+2,none⟩) (show b < w2.heap.size by omega)).trans y2; have x3:=(hb3.cell (p:=⟨b,o+i * 7+3,none⟩) (show b < w2.heap.size by omega)).trans y3; have x4:=(hb3.cell (p:=⟨b,o+i * 7+4,none⟩) (show b < w2.heap.size by omega)).trans y4; have x5:=(hb3.cell (p:=⟨b,o+i * 7+5,none⟩) (show b < w2.heap.size by omega)).trans y5; have x6:=(hb3.cell (p:=⟨b,o+i * 7+6,none⟩) (show b < w2.heap.size by omega)).trans y6; have z0:=(hb3.cell (p:=⟨b,o+j * 7,none⟩) (show b < w2.heap.size by omega)).trans v0; have z1:=(hb3.cell (p:=⟨b,o+j * 7+1,none⟩) (show b < w2.heap.size by omega)).trans v1; have z2:=(hb3.cell (p:=⟨b,o+j * 7+2,none⟩) (show b < w2.heap.size by omega)).trans v2; have z3:=(hb3.cell (p:=⟨b,o+j * 7+3,none⟩) (show b < w2.heap.size by omega)).trans v3; have z4:=(hb3.cell (p:=⟨b,o+j * 7+4,none⟩) (show b < w2.heap.size by omega)).trans v4; have z5:=(hb3.cell (p:=⟨b,o+j * 7+5,none⟩) (show b < w2.heap.size by omega)).trans v5; have z6:=(hb3.cell (p:=⟨b,o+j * 7+6,none⟩) (show b < w2.heap.size by omega)).trans v6))
     have hb3':Below w2.heap.size w2 w3:=⟨hb3.os,hb3.tape,hb3.output,hb3.size,hb3.block⟩
     have HB3:=Qa ((Q6 HB2).trans (hb3'.mono hs2))
     have hs3:M≤w3.heap.size:=Nat.le_trans hs2 hb3'.size
     have HOv:=Qa hov
     clear hov hb3 hb3' y0 y1 y2 y3 y4 y5 y6 v0 v1 v2 v3 v4 v5 v6 HB2
     go_wp2_with fail
     go_region_held3 (fun u=>u.cell? ⟨b,o+i * 7,none⟩=some (.int .i64 kd)∧u.cell? ⟨b,o+i * 7+1,none⟩=some (.string nd)∧u.cell? ⟨b,o+i * 7+2,none⟩=some (.int .i64 ic)∧u.cell? ⟨b,o+i * 7+3,none⟩=some (.string ad)∧u.cell? ⟨b,o+i * 7+4,none⟩=some (.int .i64 pt)∧u.cell? ⟨b,o+i * 7+5,none⟩=some (.string tx)∧u.cell? ⟨b,o+i * 7+6,none⟩=some (.string al)∧u.cell? ⟨b,o+j * 7,none⟩=some (.int .i64 kd2)∧u.cell? ⟨b,o+j * 7+1,none⟩=some (.string nd2)∧u.cell? ⟨b,o+j * 7+2,none⟩=some (.int .i64 ic2)∧u.cell? ⟨b,o+j * 7+3,none⟩=some (.string ad2)∧u.cell? ⟨b,o+j * 7+4,none⟩=some (.int .i64 pt2)∧u.cell? ⟨b,o+j * 7+5,none⟩=some (.string tx2)∧u.cell? ⟨b,o+j * 7+6,none⟩=some (.string al2)) (go_keep)
      (first | (go_at_call 133; refine (Q6 Kr2 _).mono ?_; rintro e w4 ⟨⟨un,rfl,hun⟩,hb4⟩; have y0:=(hb4.cell (p:=⟨b,o+i * 7,none⟩) (show b < w3.heap.size by omega)).trans x0; have y1:=(hb4.cell (p:=⟨b,o+i * 7+1,none⟩) (show b < w3.heap.size by omega)).trans x1; have y2:=(hb4.cell (p:=⟨b,o+i * 7+2,none⟩) (show b < w3.heap.size by omega)).trans x2; have y3:=(hb4.cell (p:=⟨b,o+i * 7+3,none⟩) (show b < w3.heap.size by omega)).trans x3; have y4:=(hb4.cell (p:=⟨b,o+i * 7+4,none⟩) (show b < w3.heap.size by omega)).trans x4; have y5:=(hb4.cell (p:=⟨b,o+i * 7+5,none⟩) (show b < w3.heap.size by omega)).trans x5; have y6:=(hb4.cell (p:=⟨b,o+i * 7+6,none⟩) (show b < w3.heap.size by omega)).trans x6; have v0:=(hb4.cell (p:=⟨b,o+j * 7,none⟩) (show b < w3.heap.size by omega)).trans z0; have v1:=(hb4.cell (p:=⟨b,o+j * 7+1,none⟩) (show b < w3.heap.size by omega)).trans z1; have v2:=(hb4.cell (p:=⟨b,o+j * 7+2,none⟩) (show b < w3.heap.size by omega)).trans z2; have v3:=(hb4.cell (p:=⟨b,o+j * 7+3,none⟩) (show b < w3.heap.size by omega)).trans z3; have v4:=(hb4.cell (p:=⟨b,o+j * 7+4,none⟩) (show b < w3.heap.size by omega)).trans z4; have v5:=(hb4.cell (p:=⟨b,o+j * 7+5,none⟩) (show b < w3.heap.size by omega)).trans z5; have v6:=(hb4.cell (p:=⟨b,o+j * 7+6,none⟩) (show b < w3.heap.size by omega)).trans z6))
     have hb4':Below w3.heap.size w3 w4:=⟨hb4.os,hb4.tape,hb4.output,hb4.size,hb4.block⟩
     have HB4:=Qa ((Q6 HB3).trans (hb4'.mono hs3))
     have hs4:M≤w4.heap.size:=Nat.le_trans hs3 hb4'.size
     have HUn:=Qa hun
     clear hun hb4 hb4' x0 x1 x2 x3 x4 x5 x6 z0 z1 z2 z3 z4 z5 z6 y0 y1 y2 y3 y4 y5 y6 v0 v1 v2 v3 v4 v5 v6 HB3
     have hcase:ov=true∨(ov=false∧un=true)∨(ov=false∧un=false∧j < i)∨(ov=false∧un=false∧¬ j < i):=by
      cases ov
      ·cases un
       ·rcases Nat.lt_or_ge j i with q | q
        ·exact .inr (.inr (.inl ⟨rfl,rfl,q⟩))
        ·exact .inr (.inr (.inr ⟨rfl,rfl,by omega⟩))
       ·exact .inr (.inl ⟨rfl,rfl⟩)
      ·exact .inl rfl
     rcases hcase with rfl | ⟨rfl,rfl⟩ | ⟨rfl,rfl,q⟩ | ⟨rfl,rfl,q⟩
     ·have hyes:=Q6 HYes ((Q6 HBt).2 (.inl ((Q6 HOv).1 (by simp))))
      have HY:=Qa hyes
      clear hyes
      go_wp2_with fail
      go_ret
      exact ⟨⟨_,rfl,⟨fun h=>by simp at h,fun h=>absurd h (Q6 HY)⟩⟩,by rw [Q6 HM]; exact Q6 HB4⟩
     ·have hnb:¬ Bt:=fun h=>by
       rcases (Q6 HBt).1 h with q | ⟨q,q2⟩
       ·exact absurd ((Q6 HOv).2 q) (by simp)
       ·exact q ((Q6 HUn).1 (by simp))
      have HNb:=Qa (Q6 HNo2 hnb)
      clear hnb HNo2 HBt
      go_wp2_with fail
      go_roundw
      case rel=>exact ⟨j+1,by omega,by go_num,HNb,HB4,hs4⟩
      case measure=>simp [intOf]; omega
     ·have hyes:=Q6 HYes ((Q6 HBt).2 (.inr ⟨fun h=>absurd ((Q6 HUn).2 h) (by simp),q⟩))
      have HY:=Qa hyes
      clear hyes
      go_wp2_with fail
      go_ret
      exact ⟨⟨_,rfl,⟨fun h=>by simp at h,fun h=>absurd h (Q6 HY)⟩⟩,by rw [Q6 HM]; exact Q6 HB4⟩
     ·have hnb:¬ Bt:=fun h=>by
       rcases (Q6 HBt).1 h with p | ⟨p,p2⟩
       ·exact absurd ((Q6 HOv).2 p) (by simp)
       ·exact q p2
      have HNb:=Qa (Q6 HNo2 hnb)
      clear hnb HNo2 HBt
      go_wp2_with fail
      go_roundw
      case rel=>exact ⟨j+1,by omega,by go_num,HNb,HB4,hs4⟩
      case measure=>simp [intOf]; omega
    ·have hnb:¬ Bt:=fun h=>cq ⟨(Q6 HBB).2 ((Q6 HBj).1 h).1,((Q6 HBj).1 h).2.1⟩
     have HNb:=Qa (Q6 HNo2 hnb)
     clear hnb HNo2 HBj
     cases bb with
     | false =>
      clear cq
      go_wp2_with fail
      go_quiet (fail)
      go_wp2_with fail
      go_roundw
      case rel=>exact ⟨j+1,by omega,by go_num,HNb,Qa ⟨(Q6 HB2).os,(Q6 HB2).tape,(Q6 HB2).output,(Q6 HB2).size,(Q6 HB2).block⟩,hs2⟩
      case measure=>simp [intOf]; omega
     | true =>
      have f1:(nd2.toList == nd.toList)=false:=Q1w fun h=>cq ⟨rfl,h⟩
      clear cq
      go_wp2_with fail
      go_quiet (fail)
      go_wp2_with fail
      go_roundw
      case rel=>exact ⟨j+1,by omega,by go_num,HNb,Qa ⟨(Q6 HB2).os,(Q6 HB2).tape,(Q6 HB2).output,(Q6 HB2).size,(Q6 HB2).block⟩,hs2⟩
      case measure=>simp [intOf]; omega
   ·go_wp2_with fail
    go_ret
    exact ⟨⟨_,rfl,⟨fun _=>(Q6 HCi).2 ⟨Q6 HGood,fun k hk=>Q6 HNo k hk (by omega)⟩,fun _=>rfl⟩⟩,by rw [Q6 HM]; exact Q6 HB⟩
theorem Qeb (l:List Ev) (j:Nat) (h:j < l.length):((Q38 l j∧l[j].kind=1)→Q3p l (j+1)=Q3p l j++[l[j]])∧(¬ (Q38 l j∧l[j].kind=1)→Q3p l (j+1)=Q3p l j):=by
 have e:=Q4c h
 constructor
 ·intro hc
  conv=>lhs; unfold Q3p
  rw [e,if_pos hc]
 ·intro hc
  conv=>lhs; unfold Q3p
  rw [e,if_neg hc,List.append_nil]
def QcH (o:Option Nat):Int:=match o with
 | none=>-1
 | some b=>b
theorem Q9s {all:List Ev} {last:ByteArray} {i:Nat} (h:i < all.length) (hb:Q1F all last i=none):(ltS last all[i].node=true→Q1F all last (i+1)=some i)∧(ltS last all[i].node=false→Q1F all last (i+1)=none):=by
 have e:=Q4c h
 constructor
 ·intro hl
  unfold Q1F
  rw [e,if_pos ⟨hl,fun b h=>by rw [hb] at h; cases h⟩]
 ·intro hl
  unfold Q1F
  rw [e,if_neg (fun hc=>by rw [hl] at hc; cases hc.1),hb]
theorem Q9t {all:List Ev} {last:ByteArray} {i b:Nat} (h:i < all.length) (hbl:b < all.length) (hb:Q1F all last i=some b):(ltS last all[i].node=true→ltS all[i].node all[b].node=true→Q1F all last (i+1)=some i)∧(ltS last all[i].node=false∨ltS all[i].node all[b].node=false→Q1F all last (i+1)=some b):=by
 have e:=Q4c h
 have e2:=Q4c hbl
 constructor
 ·intro hl hl2
  unfold Q1F
  rw [e,if_pos ⟨hl,fun b' h=>by rw [hb] at h; cases h; rw [e2]; exact hl2⟩]
 ·intro hl
  unfold Q1F
  rw [e,if_neg (fun hc=>?_),hb]
  rcases hl with hl | hl
  ·rw [hl] at hc; cases hc.1
  ·have:=hc.2 b hb
   rw [e2,hl] at this
   cases this
theorem Qcr {all:List Ev} {k:Nat} {O:List Ev} {last:ByteArray} (h:Q5G all k=(O,last)) (hb:Q1F all last all.length=none):Q5G all (k+1)=(O,last):=by
 show Q7j all (Q5G all k)=_
 rw [h]
 unfold Q7j
 simp only
 rw [hb]
theorem Qcs {all:List Ev} {k b:Nat} {O:List Ev} {last:ByteArray} (h:Q5G all k=(O,last)) (hbl:b < all.length) (hb:Q1F all last all.length=some b):Q5G all (k+1)=(O++[all[b]],all[b].node):=by
 show Q7j all (Q5G all k)=_
 rw [h]
 unfold Q7j
 simp only
 rw [hb]
 simp only [Q4c hbl]
set_option maxRecDepth 100000 in
set_option maxHeartbeats 4000000 in
theorem Qm3 (l:List Ev) (a:Option Addr) (c N:Nat) (w:World) (hrow:RowAt w N a (evC l)) (hN:N≤w.heap.size) (hl:l.length≤33554432) (hz:Q2d l) :
  Calls Tryz.prog 59 #[.slice a l.length c] w fun e w'=>Q4N w (upP l) e w':=by
 have HRow:=Qa hrow
 have HZ:=Qa hz
 have HT:=Qa (Qeb l)
 obtain ⟨i0,hi,hz0,hz1,hz2⟩:=info_parts Tryz.info107
 have Hi:=Qa hi
 have Hz0:=Qa hz0
 have Hz1:=Qa hz1
 have Hz2:=Qa hz2
 clear hi hz0 hz1 hz2 hrow hz
 obtain ⟨M,hM⟩:∃ M,w.heap.size=M:=⟨_,rfl⟩
 have HM:=Qa hM
 have hs0:M≤w.heap.size:=by omega
 rw [hM] at hN
 clear hM
 go_enter Tryz.func59,Tryz.ntmps59
 go_wp2_with fail
 go_loopg [3,4] (l.length+1) (fun g vl vi w'=>∃ (j n:Nat) (ar:Option Addr) (cr:Nat),vi=.int .i64 j∧j≤l.length∧g=l.length+1 - j∧vl=.slice ar n cr∧n≤j∧Hid ((Q3p l j).length=n)∧Hid (w'.ownsRow M 107 7 (.slice ar n cr) n (evC (Q3p l j)))∧Hid (Below M w w')∧M≤w'.heap.size)
 case atStart=>exact ⟨0,0,none,0,rfl,Nat.zero_le _,rfl,rfl,Nat.le_refl _,Qa rfl,Qa (World.ownsRow_nil _ _ _ _),Qa (Below.refl _ _),hs0⟩
 case round =>
  obtain ⟨j,n,ar,cr,rfl,hj,rfl,rfl,hn,HS,HO,HB,hs⟩:=hrel
  by_cases cj:j < l.length
  ·obtain ⟨t1,t2⟩:=Q6 HT j cj
   have hRw:=(Q6 HRow).below ((Q6 HB).mono hN)
   have key:=Qel l a c N j wr hRw (Nat.le_trans hN hs) hl (Q6 HZ) cj
   obtain ⟨b,o,rfl,hb,x0,x1,x2,x3,x4,x5,x6⟩:=Q2K hRw j cj
   generalize Q38 l j=Cn at *
   have T1:=Qa t1
   have T2:=Qa t2
   have Key:=Qa key
   clear t1 t2 key hRw
   obtain ⟨k,hk⟩:∃ k,l[j]=k:=⟨_,rfl⟩
   rw [hk] at T1 T2 x0 x1 x2 x3 x4 x5 x6
   clear hk
   obtain ⟨kd,nd,ic,ad,pt,tx,al⟩:=k
   simp only at x0 x1 x2 x3 x4 x5 x6 T1 T2
   go_wp2_with fail
   refine (Q6 Key).mono ?_
   rintro e w1 ⟨⟨bb,rfl,hbb⟩,hb1⟩
   have y0:=(hb1.cell (p:=⟨b,o+j * 7,none⟩) (by show b < _; omega)).trans x0
   have y1:=(hb1.cell (p:=⟨b,o+j * 7+1,none⟩) (by show b < _; omega)).trans x1
   have y2:=(hb1.cell (p:=⟨b,o+j * 7+2,none⟩) (by show b < _; omega)).trans x2
   have y3:=(hb1.cell (p:=⟨b,o+j * 7+3,none⟩) (by show b < _; omega)).trans x3
   have y4:=(hb1.cell (p:=⟨b,o+j * 7+4,none⟩) (by show b < _; omega)).trans x4
   have y5:=(hb1.cell (p:=⟨b,o+j * 7+5,none⟩) (by show b < _; omega)).trans x5
   have y6:=(hb1.cell (p:=⟨b,o+j * 7+6,none⟩) (by show b < _; omega)).trans x6
   have HO1:=Qa (Qk (Q6 HO) hb1)
   have HB1:=Qa ((Q6 HB).trans (hb1.mono hs))
   have hs1:M≤w1.heap.size:=Nat.le_trans hs hb1.size
   have HBB:=Qa hbb
   clear hbb hb1 x0 x1 x2 x3 x4 x5 x6 HO HB Key hs
   by_cases cc:bb=true∧kd=1
   ·obtain ⟨rfl,ck⟩:=cc
    have e9:(kd == 1)=true:=by rw [beq_iff_eq]; exact ck
    have HT1:=Qa (Q6 T1 ⟨(Q6 HBB).1 (by simp),ck⟩)
    clear ck T1 T2
    go_wp2_with (at_builtin; refine Qe _ rfl _ _ 33 33 rfl M 107 i0 (.agg #[.int .i64 0,.string ⟨#[]⟩,.int .i64 0,.string ⟨#[]⟩,.int .i64 0,.string ⟨#[]⟩,.string ⟨#[]⟩]) 7 88 Tryz.underlying33 (Q6 Hi) (Q6 Hz0) (Q6 Hz1) (Q6 Hz2) rfl (.slice ar n cr) n (evC (Q3p l j)) (by rfl) ((Q6 HO1).alloc _) (.slice (some ⟨w1.heap.size,0,none⟩) 1 1) 1 [.int .i64 kd,.string nd,.int .i64 ic,.string ad,.int .i64 pt,.string tx,.string al] (by rfl) (Src.ofSlice _ Tryz.underlying33 ⟨w1.heap.size,0,none⟩ 1 1 _ rfl (Q1x _ _ _ _ _ _ _ _ _ _ rfl) Qdd) (by unfold maxLen; omega) (by omega) (by simp; omega) ?_; intro a1 e1 w2 hown2 hgrow2 hat2)
    go_roundg (l.length+1 - (j+1))
    case measure=>omega
    case rel =>
     have hA:=(Below.refl M w1).alloc hs1 (.cells #[.int .i64 kd,.string nd,.int .i64 ic,.string ad,.int .i64 pt,.string tx,.string al] 107)
     have hB2:=Qn ((Q6 HO1).alloc _) hgrow2 (Nat.le_trans hs1 hA.size)
     refine ⟨j+1,n+1,a1,e1,by go_num,by omega,rfl,rfl,by omega,Qa ?_,Qa ?_,Qa ((Q6 HB1).trans (hA.trans hB2)),Nat.le_trans hs1 (Nat.le_trans hA.size hgrow2.size)⟩
     ·rw [Q6 HT1,List.length_append,Q6 HS]; rfl
     ·rw [Q6 HT1,Q3u]; exact hown2
   ·have HT2:=Qa (Q6 T2 (fun h=>cc ⟨(Q6 HBB).2 h.1,h.2⟩))
    have hcc:bb=false∨(bb=true∧(kd == 1)=false):=by
     cases bb
     ·exact .inl rfl
     ·exact .inr ⟨rfl,beq_eq_false_iff_ne.2 fun h=>cc ⟨rfl,h⟩⟩
    clear T1 T2 cc
    rcases hcc with rfl | ⟨rfl,e9⟩
    all_goals
     go_wp2_with fail
     go_roundg (l.length+1 - (j+1))
     case measure=>omega
     case rel=>exact ⟨j+1,n,ar,cr,by go_num,by omega,rfl,rfl,by omega,Qa (by rw [Q6 HT2]; exact Q6 HS),Qa (by rw [Q6 HT2]; exact Q6 HO1),HB1,hs1⟩
  ·have ej:j=l.length:=by omega
   subst ej
   go_wp2_with fail
   have hrowA:=Q0u (Q6 HO)
   have hlA:=Q6 HS
   obtain ⟨A,hA⟩:∃ A,Q3p l l.length=A:=⟨_,rfl⟩
   rw [hA] at hrowA hlA
   have hUp:upP l=(Q5G A A.length).1:=by unfold upP; rw [hA]
   have HUp:=Qa hUp
   have HA:=Qa hrowA
   have HLA:=Qa hlA
   have HBw:=Qa (Q6 HB)
   have hsw:=hs
   obtain ⟨M2,hM2⟩:∃ M2,wr.heap.size=M2:=⟨_,rfl⟩
   rw [hM2] at HA hsw
   have hs2:M2≤wr.heap.size:=by omega
   clear hrowA hlA hUp hM2 hA HB HO HS hs HT HRow HZ
   go_loopg [6,7,8] (n+1) (fun g vo vl vk w'=>∃ (k m:Nat) (O:List Ev) (last:ByteArray) (ao:Option Addr) (co:Nat),vk=.int .i64 k∧k≤n∧g=n+1 - k∧vo=.slice ao m co∧m≤k∧vl=.string last∧Hid (O.length=m)∧Hid (Q5G A k=(O,last))∧Hid (w'.ownsRow M2 107 7 (.slice ao m co) m (evC O))∧Hid (Below M2 wr w')∧M2≤w'.heap.size)
   case atStart=>exact ⟨0,0,[],⟨#[]⟩,none,0,rfl,Nat.zero_le _,rfl,rfl,Nat.le_refl _,rfl,Qa rfl,Qa rfl,Qa (World.ownsRow_nil _ _ _ _),Qa (Below.refl _ _),hs2⟩
   case round =>
    rename_i w0
    obtain ⟨k,m,O,last,ao,co,rfl,hk,rfl,rfl,hm,rfl,HOl,HU,HO,HB,hs⟩:=hrel
    by_cases ck:k < n
    ·have hrA:=(Q6 HA).below (Q6 HB)
     have HrA:=Qa hrA
     clear hrA
     go_wp2_with fail
     go_loopw [9,10] (fun vb vi w'=>∃ (i q:Nat),i≤n∧vi=.int .i64 i∧vb=.int .i64 (QcH (Q1F A last i))∧w'=wr.drewN q) (fun _ vi _=>n - (intOf vi).toNat)
     case atStart=>exact ⟨0,0,Nat.zero_le _,rfl,rfl,rfl⟩
     case round =>
      obtain ⟨i,q,hi,rfl,rfl,rfl⟩:=hrel
      by_cases ci:i < n
      ·have ciA:i < A.length:=by rw [Q6 HLA]; exact ci
       obtain ⟨b,o,rfl,hb,x0,x1,x2,x3,x4,x5,x6⟩:=Q2K (Q6 HrA) i ciA
       have hi1:(i:Int) < (n:Int):=by omega
       have hi0:(0:Int)≤(i:Int):=by omega
       cases hbst:Q1F A last i with
       | none =>
        obtain ⟨st1,st2⟩:=Q9s ciA hbst
        have ST1:=Qa st1
        have ST2:=Qa st2
        clear st1 st2 hbst
        simp only [QcH]
        have hd:decide ((-1:Int) < 0)=true:=by decide
        cases hq:ltS last A[i].node with
        | true =>
         have HSt:=Qa (Q6 ST1 hq)
         obtain ⟨f1,f2⟩:=Qkq hq
         clear ST1 ST2 hq
         generalize A[i].node=un at *
         go_wp2_with fail
         go_quiet (fail)
         go_wp2_with fail
         refine ⟨⟨i+1,q+nq,by omega,by go_num,by rw [Q6 HSt],rfl⟩,by simp [intOf]; omega⟩
        | false =>
         have HSt:=Qa (Q6 ST2 hq)
         have hle:=leS hq
         clear ST1 ST2 hq
         generalize A[i].node=un at *
         rcases hle with f1 | ⟨f1,f2⟩
         ·go_wp2_with fail
          go_quiet (fail)
          go_wp2_with fail
          refine ⟨⟨i+1,q+nq,by omega,by go_num,by rw [Q6 HSt],rfl⟩,by simp [intOf]; omega⟩
         ·go_wp2_with fail
          go_quiet (fail)
          go_wp2_with fail
          refine ⟨⟨i+1,q+nq,by omega,by go_num,by rw [Q6 HSt],rfl⟩,by simp [intOf]; omega⟩
       | some bs =>
        obtain ⟨hbs,_,_⟩:=Q4X i bs hbst
        have hbsA:bs < A.length:=by omega
        obtain ⟨st1,st2⟩:=Q9t ciA hbsA hbst
        have ST1:=Qa st1
        have ST2:=Qa st2
        obtain ⟨b',o',he,_,y0,y1,_,_,_,_,_⟩:=Q2K (Q6 HrA) bs hbsA
        cases he
        clear st1 st2 hbst y0
        simp only [QcH]
        have hd:decide ((bs:Int) < 0)=false:=decide_eq_false (by omega)
        have hi3:(bs:Int) < (n:Int):=by omega
        have hi4:(0:Int)≤(bs:Int):=by omega
        cases hq:ltS last A[i].node with
        | true =>
         obtain ⟨f1,f2⟩:=Qkq hq
         cases hq2:ltS A[i].node A[bs].node with
         | true =>
          have HSt:=Qa (Q6 ST1 hq hq2)
          have f3:Op.bytesLess A[i].node.toList A[bs].node.toList=true:=hq2
          clear ST1 ST2 hq hq2
          generalize A[i].node=un at *
          generalize A[bs].node=un2 at *
          go_wp2_with fail
          go_quiet (fail)
          go_wp2_with fail
          refine ⟨⟨i+1,q+nq,by omega,by go_num,by rw [Q6 HSt],rfl⟩,by simp [intOf]; omega⟩
         | false =>
          have HSt:=Qa (Q6 ST2 (.inr hq2))
          have f3:Op.bytesLess A[i].node.toList A[bs].node.toList=false:=hq2
          clear ST1 ST2 hq hq2
          generalize A[i].node=un at *
          generalize A[bs].node=un2 at *
          go_wp2_with fail
          go_quiet (fail)
          go_wp2_with fail
          refine ⟨⟨i+1,q+nq,by omega,by go_num,by rw [Q6 HSt],rfl⟩,by simp [intOf]; omega⟩
        | false =>
         have HSt:=Qa (Q6 ST2 (.inl hq))
         have hle:=leS hq
         clear ST1 ST2 hq
         generalize A[i].node=un at *
         generalize A[bs].node=un2 at *
         rcases hle with f1 | ⟨f1,f2⟩
         ·go_wp2_with fail
          go_quiet (fail)
          go_wp2_with fail
          refine ⟨⟨i+1,q+nq,by omega,by go_num,by rw [Q6 HSt],rfl⟩,by simp [intOf]; omega⟩
         ·go_wp2_with fail
          go_quiet (fail)
          go_wp2_with fail
          refine ⟨⟨i+1,q+nq,by omega,by go_num,by rw [Q6 HSt],rfl⟩,by simp [intOf]; omega⟩
      ·have ei:i=n:=by omega
       subst ei
       cases hbst:Q1F A last i with
       | none =>
        have hst:=Qcr (Q6 HU) (by rw [Q6 HLA]; exact hbst)
        have HSt:=Qa hst
        clear hst hbst
        simp only [QcH]
        go_wp2_with fail
        go_roundg (i+1 - (k+1))
        case measure=>omega
        case rel=>exact ⟨k+1,m,O,last,ao,co,by go_num,by omega,rfl,rfl,by omega,rfl,HOl,HSt,HO,Qa ⟨(Q6 HB).os,(Q6 HB).tape,(Q6 HB).output,(Q6 HB).size,(Q6 HB).block⟩,hs⟩
       | some bs =>
        obtain ⟨hbs,_,_⟩:=Q4X i bs hbst
        have hbsA:bs < A.length:=by rw [Q6 HLA]; omega
        have hst:=Qcs (Q6 HU) hbsA (by rw [Q6 HLA]; exact hbst)
        have HSt:=Qa hst
        obtain ⟨b,o,rfl,hb,x0,x1,x2,x3,x4,x5,x6⟩:=Q2K (Q6 HrA) bs hbsA
        clear hst hbst
        simp only [QcH]
        have hi3:(bs:Int) < (i:Int):=by omega
        have hi4:(0:Int)≤(bs:Int):=by omega
        generalize A[bs]=x at *
        obtain ⟨kd,nd,ic,ad,pt,tx,al⟩:=x
        simp only at x0 x1 x2 x3 x4 x5 x6 HSt
        have HOq:=HO
        go_upto_region 21 with (at_builtin; refine Qe _ rfl _ _ 33 33 rfl M2 107 i0 (.agg #[.int .i64 0,.string ⟨#[]⟩,.int .i64 0,.string ⟨#[]⟩,.int .i64 0,.string ⟨#[]⟩,.string ⟨#[]⟩]) 7 88 Tryz.underlying33 (Q6 Hi) (Q6 Hz0) (Q6 Hz1) (Q6 Hz2) rfl (.slice ao m co) m (evC O) (by rfl) ((Q6 HOq).alloc _) (.slice (some ⟨wr.heap.size,0,none⟩) 1 1) 1 [.int .i64 kd,.string nd,.int .i64 ic,.string ad,.int .i64 pt,.string tx,.string al] (by rfl) (Src.ofSlice _ Tryz.underlying33 ⟨wr.heap.size,0,none⟩ 1 1 _ rfl (Q1x _ _ _ _ _ _ _ _ _ _ rfl) Qdd) (by unfold maxLen; omega) (by omega) (by simp; omega) ?_; intro a2 e2 w2 hown2 hgrow2 hat2)
        have hA2:=(Below.refl M2 wr).alloc hs (.cells #[.int .i64 kd,.string nd,.int .i64 ic,.string ad,.int .i64 pt,.string tx,.string al] 107)
        have hB2:=Qn ((Q6 HO).alloc (.cells #[.int .i64 kd,.string nd,.int .i64 ic,.string ad,.int .i64 pt,.string tx,.string al] 107)) ⟨hgrow2.os,hgrow2.tape,hgrow2.output,hgrow2.size,hgrow2.block⟩ (Nat.le_trans hs hA2.size)
        have y1:=((hA2.trans hB2).cell (p:=⟨b,o+bs * 7+1,none⟩) hb).trans x1
        have HB3:=Qa ((Q6 HB).trans (hA2.trans hB2))
        have hs3:M2≤w2.heap.size:=Nat.le_trans hs (Nat.le_trans hA2.size hB2.size)
        have HO3:=Qa hown2
        clear hA2 hB2 hgrow2 hat2 hown2 x0 x1 x2 x3 x4 x5 x6
        go_wp2_with fail
        go_roundg (i+1 - (k+1))
        case measure=>omega
        case rel =>
         refine ⟨k+1,m+1,_,_,a2,e2,by go_num,by omega,rfl,rfl,by omega,rfl,Qa ?_,HSt,Qa ?_,HB3,hs3⟩
         ·rw [List.length_append,Q6 HOl]; rfl
         ·rw [Q3u]; exact Q6 HO3
    ·have ek:k=n:=by omega
     subst ek
     have hw:Q4N w (upP l) (.returned (.slice ao m co)) wr:=by
      have h1:=Q6 HU
      rw [←Q6 HLA] at h1
      have h2:upP l=O:=by rw [Q6 HUp,h1]
      rw [h2]
      refine ⟨ao,co,by rw [Q6 HOl],?_,?_⟩
      ·rw [Q6 HOl,Q6 HM]; exact Q3e hsw (Q6 HO)
      ·rw [Q6 HM]; exact (Q6 HBw).trans ((Q6 HB).mono hsw)
     have HW:=Qa hw
     clear hw
     go_wp2_with fail
     go_ret
     exact Q6 HW
end Go.Proofs.YtdhobdmhnocbgabGreatDoor
