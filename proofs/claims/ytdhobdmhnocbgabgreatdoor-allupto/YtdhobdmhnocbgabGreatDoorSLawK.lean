import Derived.Test.YtdhobdmhnocbgabGreatDoorSOpnE
import Derived.Test.YtdhobdmhnocbgabGreatDoorSRwC
import Derived.Test.YtdhobdmhnocbgabGreatDoorSTxE
namespace Go.Proofs.YtdhobdmhnocbgabGreatDoor
open Go.RowKit Zr
def RoomM (w:World) (N:Nat) (v:Value) (m:MI):Prop:=∃ v1 v2 v3 v4,v=.agg #[.int .i64 m.id,.int .i64 m.flags,v1,v2,v3,v4]∧RoomQ w N v1 m.q∧RoomR w N v2 m.a∧RoomR w N v3 m.u∧RoomR w N v4 m.x
theorem RoomR.set {w:World} {N O:Nat} {v:Value} {l:List RI} {cs:Array Value} {fr:Nat × Nat} (h:RoomR w N v l) (hO:w.heap[O]? = some (.cells cs 32 fr)) (j:Nat) (u:Value):RoomR (w.setCell ⟨O,j,none⟩ u) N v l:=by
 obtain ⟨g,h1,h2,h3⟩:=h
 refine ⟨g,h1,h2,(Qf (fun e=>?_) j u).trans h3⟩
 subst e
 rw [h3] at hO
 cases hO
theorem RoomQ.set {w:World} {N O:Nat} {v:Value} {l:List QI} {cs:Array Value} {fr:Nat × Nat} (h:RoomQ w N v l) (hO:w.heap[O]? = some (.cells cs 32 fr)) (j:Nat) (u:Value):RoomQ (w.setCell ⟨O,j,none⟩ u) N v l:=by
 obtain ⟨g,h1,h2,h3⟩:=h
 refine ⟨g,h1,h2,(Qf (fun e=>?_) j u).trans h3⟩
 subst e
 rw [h3] at hO
 cases hO
theorem RoomR.mono {w:World} {N M:Nat} {v:Value} {l:List RI} (h:RoomR w N v l) (hm:M≤N):RoomR w M v l:=by
 obtain ⟨g,h1,h2,h3⟩:=h
 exact ⟨g,h1,by omega,h3⟩
theorem Qaj {w:World} {k P:Nat} (h:k≠P) (v0 v1 v2 v3 v4 v5:Value):((((((w.setCell ⟨P,0,none⟩ v0).setCell ⟨P,1,none⟩ v1).setCell ⟨P,2,none⟩ v2).setCell ⟨P,3,none⟩ v3).setCell ⟨P,4,none⟩ v4).setCell ⟨P,5,none⟩ v5).heap[k]? = w.heap[k]?:=by
 rw [Qf h,Qf h,Qf h,Qf h,Qf h,Qf h]
theorem RoomR.set6 {w:World} {N O:Nat} {v:Value} {l:List RI} {cs:Array Value} {fr:Nat × Nat} (h:RoomR w N v l) (hO:w.heap[O]? = some (.cells cs 32 fr)) (v0 v1 v2 v3 v4 v5:Value):RoomR ((((((w.setCell ⟨O,0,none⟩ v0).setCell ⟨O,1,none⟩ v1).setCell ⟨O,2,none⟩ v2).setCell ⟨O,3,none⟩ v3).setCell ⟨O,4,none⟩ v4).setCell ⟨O,5,none⟩ v5) N v l:=by
 obtain ⟨g,h1,h2,h3⟩:=h
 refine ⟨g,h1,h2,(Qaj (fun e=>?_) _ _ _ _ _ _).trans h3⟩
 subst e
 rw [h3] at hO
 cases hO
theorem RoomQ.set6 {w:World} {N O:Nat} {v:Value} {l:List QI} {cs:Array Value} {fr:Nat × Nat} (h:RoomQ w N v l) (hO:w.heap[O]? = some (.cells cs 32 fr)) (v0 v1 v2 v3 v4 v5:Value):RoomQ ((((((w.setCell ⟨O,0,none⟩ v0).setCell ⟨O,1,none⟩ v1).setCell ⟨O,2,none⟩ v2).setCell ⟨O,3,none⟩ v3).setCell ⟨O,4,none⟩ v4).setCell ⟨O,5,none⟩ v5) N v l:=by
 obtain ⟨g,h1,h2,h3⟩:=h
 refine ⟨g,h1,h2,(Qaj (fun e=>?_) _ _ _ _ _ _).trans h3⟩
 subst e
 rw [h3] at hO
 cases hO
set_option maxRecDepth 100000 in
set_option maxHeartbeats 4000000 in
theorem Qhf (m:MI) (v:Value) (w:World) (hm:MsgAt w w.heap.size v m) (hl:Qgg m) :
  Calls Tryz.prog 24 #[v] w fun e w'=>(∃ v',e=.returned v'∧RoomM w' w.heap.size v' m)∧Below w.heap.size w w':=by
 obtain ⟨N,hN⟩:∃ N,w.heap.size=N:=⟨_,rfl⟩
 rw [hN] at hm ⊢
 obtain ⟨a1,c1,a2,c2,a3,c3,a4,c4,rfl,r1,r2,r3,r4,_⟩:=hm
 obtain ⟨s1,s2,s3,s4⟩:=hl
 obtain ⟨id,fl,q,a,u,x⟩:=m
 simp only at *
 obtain ⟨i0,hi,hz0,hz1,hz2⟩:=info_parts Tryz.info91
 have Hi:=Qa hi
 have Hz0:=Qa hz0
 have Hz1:=Qa hz1
 have Hz2:=Qa hz2
 have HRow:=Qa (fun W (hb:Below N w W)=>r1.below hb)
 have K2:=Qa (fun W (hb:Below N w W) (hs:N≤W.heap.size)=>Q2Y a a2 c2 N W (r2.below hb) hs s2)
 have K3:=Qa (fun W (hb:Below N w W) (hs:N≤W.heap.size)=>Q2Y u a3 c3 N W (r3.below hb) hs s3)
 have K4:=Qa (fun W (hb:Below N w W) (hs:N≤W.heap.size)=>Q2Y x a4 c4 N W (r4.below hb) hs s4)
 clear hi hz0 hz1 hz2 r1 r2 r3 r4
 obtain ⟨n,hln⟩:∃ n,q.length=n:=⟨_,rfl⟩
 have hcl:=Qcb q
 rw [hln] at hcl
 have HCl:=Qa hcl
 have HLn:=Qa hln
 rw [hln] at s1
 have hmt:=Q6y #[.string ⟨#[]⟩,.int .i64 0,.int .i64 0] n 3 rfl (by decide)
 have hms:(madeCells #[.string ⟨#[]⟩,.int .i64 0,.int .i64 0] ((n+1) * 3)).size=(n+1) * 3:=size_madeCells _ _
 have HMt:=Qa hmt
 have HMs:=Qa hms
 have HOne:=Qa (QkD q)
 rw [hln]
 clear hcl hmt hms hln
 obtain ⟨W0,hW0⟩:∃ W0,(w.alloc (.cells #[.int .i64 id,.int .i64 fl,.slice a1 n c1,.slice a2 a.length c2,.slice a3 u.length c3,.slice a4 x.length c4] 32)).alloc (.cells #[.int .i64 0,.int .i64 0,.slice none 0 0,.slice none 0 0,.slice none 0 0,.slice none 0 0] 32)=W0:=⟨_,rfl⟩
 obtain ⟨tA,tB⟩:=Q2f w (.cells #[.int .i64 id,.int .i64 fl,.slice a1 n c1,.slice a2 a.length c2,.slice a3 u.length c3,.slice a4 x.length c4] 32) (.cells #[.int .i64 0,.int .i64 0,.slice none 0 0,.slice none 0 0,.slice none 0 0,.slice none 0 0] 32)
 rw [hW0,hN] at tA tB
 have hBel:Below N w W0:=by rw [←hW0,←hN]; exact ((Below.refl _ _).alloc (Nat.le_refl _) _).alloc (by simp) _
 have hs0:W0.heap.size=N+2:=by rw [←hW0]; simp; omega
 have HW0:=Qa hW0
 have TA:=Qa tA
 have TB:=Qa tB
 clear hW0 tA tB
 obtain ⟨g,hg⟩:∃ g,N+2=g:=⟨_,rfl⟩
 go_enter Tryz.func24,Tryz.ntmps24
 go_wp2_with (at_make; rw [Q6 HW0]; refine wpList_make_full _ rfl _ _ 30 rfl N 91 i0 (.agg #[.string ⟨#[]⟩,.int .i64 0,.int .i64 0]) 3 Tryz.underlying30 (Q6 Hi) (Q6 Hz0) (Q6 Hz1) .i64 .i64 ((n:Int)+1) ((n:Int)+1) (n+1) (by rfl) (by rfl) (by omega) (by omega) (by rw [Q6 Hz2]; omega) (by unfold maxLen; omega) (by omega) ?_; intro w1 hown1 hgrow1; rw [hs0,hg] at hown1; have hg1:=Q54 hown1; rw [Array.toArray_toList] at hg1; have HG1:Hid (w1.heap[g]? = some (.cells (madeCells #[.string ⟨#[]⟩,.int .i64 0,.int .i64 0] ((n+1) * 3)) 91 (0,0))):=hg1; have hB1:Below N w w1:=hBel.trans (⟨hgrow1.os,hgrow1.tape,hgrow1.output,hgrow1.size,fun k hk=>hgrow1.block k (by omega) (by simp)⟩:Below N W0 w1); have TA1:=Qa ((hgrow1.block N (by omega) (by simp)).trans (Q6 TA)); have TB1:=Qa ((hgrow1.block (N+1) (by omega) (by simp)).trans (Q6 TB)); obtain ⟨⟨b0,b1,b2,b3,b4,b5⟩,y0,y1,y2,y3,y4,y5⟩:=Qh (Q6 TA1); clear hown1 hgrow1 hg1; rw [hs0,hg])
 have hfit:(qcI q).length≤(madeCells #[.string ⟨#[]⟩,.int .i64 0,.int .i64 0] ((n+1) * 3)).size:=by rw [Q6 HCl,Q6 HMs]; omega
 have hlen5:(qcI q).length=n * i0.size:=by rw [Q6 Hz1]; exact Q6 HCl
 obtain ⟨w2,hw2⟩:∃ w2,w1.setRow g (qcI q++(madeCells #[.string ⟨#[]⟩,.int .i64 0,.int .i64 0] ((n+1) * 3)).toList.drop (qcI q).length).toArray=w2:=⟨_,rfl⟩
 have hg2:=setRow_heap w1 g _ (qcI q++(madeCells #[.string ⟨#[]⟩,.int .i64 0,.int .i64 0] ((n+1) * 3)).toList.drop (qcI q).length).toArray 91 _ (Q6 HG1)
 have hB2:=below_setRow hB1 (show N≤g by omega) (qcI q++(madeCells #[.string ⟨#[]⟩,.int .i64 0,.int .i64 0] ((n+1) * 3)).toList.drop (qcI q).length).toArray
 have TA2:=Qa ((setRow_other w1 g N (qcI q++(madeCells #[.string ⟨#[]⟩,.int .i64 0,.int .i64 0] ((n+1) * 3)).toList.drop (qcI q).length).toArray (by omega)).trans (Q6 TA1))
 have TB2:=Qa ((setRow_other w1 g (N+1) (qcI q++(madeCells #[.string ⟨#[]⟩,.int .i64 0,.int .i64 0] ((n+1) * 3)).toList.drop (qcI q).length).toArray (by omega)).trans (Q6 TB1))
 rw [hw2] at hg2 hB2 TA2 TB2
 rw [Q35 w1 30 30 3 91 i0 g (n+1) (n+1) a1 n c1 _ 91 (qcI q) Tryz.underlying30 (Q6 Hi) (Q6 HG1) hlen5 (by omega) (Q6 HRow _ hB1).addr hfit (Q6 HOne),hw2]
 have hg3:w2.heap[g]? = some (.cells (qcI q++([Value.string ⟨#[]⟩,Value.int .i64 0,Value.int .i64 0]:List Value)).toArray 91 (0,0)):=by
  rw [hg2,Q6 HCl,Q6 HMt]
 have cc:=(Qc hg3 (n * 3+1)).trans (Q97 _ _ _ _ _ (Q6 HCl))
 have zz:=Qd hg3 (n * 3+1)
 have HG3:=Qa hg3
 clear hg2 hg3 hfit hlen5 hB1 hw2 b0 b1 b2 b3 b4 b5 y0 y1 y2 y3 y4 y5
 obtain ⟨⟨b0,b1,b2,b3,b4,b5⟩,y0,y1,y2,y3,y4,y5⟩:=Qh (Q6 TA2)
 have hlt2:=Qb (Q6 HG3)
 go_wp2_with fail
 have hfin:=Qo (Q6 HG3) (n * 3+1) (.int .i64 77)
 rw [QdI _ _ _ _ _ _ (Q6 HCl)] at hfin
 have HFin:=Qa hfin
 have TA3:=Qa ((Qf (show N≠g by omega) (n * 3+1) (.int .i64 77)).trans (Q6 TA2))
 have TB3:=Qa ((Qf (show N+1≠g by omega) (n * 3+1) (.int .i64 77)).trans (Q6 TB2))
 have hB3:=hB2.setCell (p:=⟨g,n * 3+1,none⟩) (show N≤g by omega) (.int .i64 77)
 clear hfin cc zz b0 b1 b2 b3 b4 b5 y0 y1 y2 y3 y4 y5
 generalize w2.setCell ⟨g,n * 3+1,none⟩ (.int .i64 77)=w3 at *
 obtain ⟨⟨b0,b1,b2,b3,b4,b5⟩,y0,y1,y2,y3,y4,y5⟩:=Qh (Q6 TA3)
 have hltN:=Qb (Q6 TA3)
 have hltM:=Qb (Q6 TB3)
 have hltg:=Qb (Q6 HFin)
 have i1:(0:Int)≤(n:Int):=by omega
 have i2:(n:Int)≤(n:Int)+1:=by omega
 go_cut [5] (fun p w'=>∃ O,p=.pointer (some ⟨O,0,none⟩)∧w3.heap.size≤O∧Hid (w'.heap[O]? = some (.cells #[.int .i64 id,.int .i64 fl,.slice (some ⟨g,0,none⟩) n (n+1),.slice none 0 0,.slice none 0 0,.slice none 0 0] 32 (0,0)))∧Hid (Below w3.heap.size w3 w'))
 case first =>
  go_region
  all_goals go_wp2_with fail
  all_goals go_meet
  all_goals exact ⟨_,rfl,Nat.le_refl _,heap_alloc_new _ _,Q2x ((Below.refl _ _).alloc (Nat.le_refl _) _)⟩
 case rest =>
  obtain ⟨O,rfl,hO,HO,HB4⟩:=hcut
  clear b0 b1 b2 b3 b4 b5 y0 y1 y2 y3 y4 y5
  have TA4:=Qa (((Q6 HB4).block N hltN).trans (Q6 TA3))
  have TB4:=Qa (((Q6 HB4).block (N+1) hltM).trans (Q6 TB3))
  have HQ4:Hid (RoomQ wc N (.slice (some ⟨g,0,none⟩) n (n+1)) q):=⟨g,by rw [Q6 HLn],by omega,((Q6 HB4).block g hltg).trans (Q6 HFin)⟩
  have hB4:=hB3.trans ((Q6 HB4).mono (show N≤w3.heap.size by omega))
  have hs4:=hB4.size
  obtain ⟨⟨b0,b1,b2,b3,b4,b5⟩,y0,y1,y2,y3,y4,y5⟩:=Qh (Q6 TA4)
  obtain ⟨⟨o0,o1,o2,o3,o4,o5⟩,z0,z1,z2,z3,z4,z5⟩:=Qh (Q6 HO)
  clear HFin TA3 TB3 HG3 TA2 TB2 hB2 hB3 HB4 hlt2
  have hON:N≠O:=by omega
  have hOM:N+1≠O:=by omega
  go_wp2_with fail
  refine (Q6 K2 _ hB4 (by omega)).mono ?_
  rintro e w5 ⟨⟨v2,rfl,hv2⟩,hb5⟩
  have TA5:=Qa ((hb5.block N (Qb (Q6 TA4))).trans (Q6 TA4))
  have TB5:=Qa ((hb5.block (N+1) (Qb (Q6 TB4))).trans (Q6 TB4))
  have HO5:=Qa ((hb5.block O (Qb (Q6 HO))).trans (Q6 HO))
  have HQ5:=Qa ((Q6 HQ4).below hb5)
  have hB5:=hB4.trans (hb5.mono (by omega))
  have hV2:=Qa (hv2.mono (show N≤_ by omega))
  obtain ⟨g2,rfl,_,_,_⟩:=hv2.row
  clear hv2 b0 b1 b2 b3 b4 b5 y0 y1 y2 y3 y4 y5 o0 o1 o2 o3 o4 o5 z0 z1 z2 z3 z4 z5
  obtain ⟨⟨b0,b1,b2,b3,b4,b5⟩,y0,y1,y2,y3,y4,y5⟩:=Qh (Q6 TA5)
  obtain ⟨⟨o0,o1,o2,o3,o4,o5⟩,z0,z1,z2,z3,z4,z5⟩:=Qh (Q6 HO5)
  have TA6:=Qa ((Qf hON 3 (.slice (some ⟨g2,0,none⟩) a.length (a.length+1))).trans (Q6 TA5))
  have TB6:=Qa ((Qf hOM 3 (.slice (some ⟨g2,0,none⟩) a.length (a.length+1))).trans (Q6 TB5))
  have HO6:=Qa ((Qo (Q6 HO5) 3 (.slice (some ⟨g2,0,none⟩) a.length (a.length+1))).trans rfl)
  have HQ6:=Qa ((Q6 HQ5).set (Q6 HO5) 3 (.slice (some ⟨g2,0,none⟩) a.length (a.length+1)))
  have R2_6:=Qa ((Q6 hV2).set (Q6 HO5) 3 (.slice (some ⟨g2,0,none⟩) a.length (a.length+1)))
  have hB6:=hB5.setCell (p:=⟨O,3,none⟩) (show N≤O by omega) (.slice (some ⟨g2,0,none⟩) a.length (a.length+1))
  have hs6:N≤(w5.setCell ⟨O,3,none⟩ (.slice (some ⟨g2,0,none⟩) a.length (a.length+1))).heap.size:=by rw [Q0l]; have:=hB5.size; omega
  go_wp2_with fail
  clear b0 b1 b2 b3 b4 b5 y0 y1 y2 y3 y4 y5 o0 o1 o2 o3 o4 o5 z0 z1 z2 z3 z4 z5
  generalize w5.setCell ⟨O,3,none⟩ (.slice (some ⟨g2,0,none⟩) a.length (a.length+1))=w6 at *
  obtain ⟨⟨b0,b1,b2,b3,b4,b5⟩,y0,y1,y2,y3,y4,y5⟩:=Qh (Q6 TA6)
  obtain ⟨⟨o0,o1,o2,o3,o4,o5⟩,z0,z1,z2,z3,z4,z5⟩:=Qh (Q6 HO6)
  refine (Q6 K3 _ hB6 (by omega)).mono ?_
  rintro e w7 ⟨⟨v3,rfl,hv3⟩,hb7⟩
  have TA7:=Qa ((hb7.block N (Qb (Q6 TA6))).trans (Q6 TA6))
  have TB7:=Qa ((hb7.block (N+1) (Qb (Q6 TB6))).trans (Q6 TB6))
  have HO7:=Qa ((hb7.block O (Qb (Q6 HO6))).trans (Q6 HO6))
  have HQ7:=Qa ((Q6 HQ6).below hb7)
  have R2_7:=Qa ((Q6 R2_6).below hb7)
  have hB7:=hB6.trans (hb7.mono (by omega))
  have hV3:=Qa (hv3.mono (show N≤_ by omega))
  obtain ⟨g3,rfl,_,_,_⟩:=hv3.row
  clear hv3 b0 b1 b2 b3 b4 b5 y0 y1 y2 y3 y4 y5 o0 o1 o2 o3 o4 o5 z0 z1 z2 z3 z4 z5
  obtain ⟨⟨b0,b1,b2,b3,b4,b5⟩,y0,y1,y2,y3,y4,y5⟩:=Qh (Q6 TA7)
  obtain ⟨⟨o0,o1,o2,o3,o4,o5⟩,z0,z1,z2,z3,z4,z5⟩:=Qh (Q6 HO7)
  have TA8:=Qa ((Qf hON 4 (.slice (some ⟨g3,0,none⟩) u.length (u.length+1))).trans (Q6 TA7))
  have TB8:=Qa ((Qf hOM 4 (.slice (some ⟨g3,0,none⟩) u.length (u.length+1))).trans (Q6 TB7))
  have HO8:=Qa ((Qo (Q6 HO7) 4 (.slice (some ⟨g3,0,none⟩) u.length (u.length+1))).trans rfl)
  have HQ8:=Qa ((Q6 HQ7).set (Q6 HO7) 4 (.slice (some ⟨g3,0,none⟩) u.length (u.length+1)))
  have R2_8:=Qa ((Q6 R2_7).set (Q6 HO7) 4 (.slice (some ⟨g3,0,none⟩) u.length (u.length+1)))
  have R3_8:=Qa ((Q6 hV3).set (Q6 HO7) 4 (.slice (some ⟨g3,0,none⟩) u.length (u.length+1)))
  have hB8:=hB7.setCell (p:=⟨O,4,none⟩) (show N≤O by omega) (.slice (some ⟨g3,0,none⟩) u.length (u.length+1))
  have hs8:N≤(w7.setCell ⟨O,4,none⟩ (.slice (some ⟨g3,0,none⟩) u.length (u.length+1))).heap.size:=by rw [Q0l]; have:=hB7.size; omega
  go_wp2_with fail
  clear b0 b1 b2 b3 b4 b5 y0 y1 y2 y3 y4 y5 o0 o1 o2 o3 o4 o5 z0 z1 z2 z3 z4 z5
  generalize w7.setCell ⟨O,4,none⟩ (.slice (some ⟨g3,0,none⟩) u.length (u.length+1))=w8 at *
  obtain ⟨⟨b0,b1,b2,b3,b4,b5⟩,y0,y1,y2,y3,y4,y5⟩:=Qh (Q6 TA8)
  obtain ⟨⟨o0,o1,o2,o3,o4,o5⟩,z0,z1,z2,z3,z4,z5⟩:=Qh (Q6 HO8)
  refine (Q6 K4 _ hB8 (by omega)).mono ?_
  rintro e w9 ⟨⟨v4,rfl,hv4⟩,hb9⟩
  have TA9:=Qa ((hb9.block N (Qb (Q6 TA8))).trans (Q6 TA8))
  have TB9:=Qa ((hb9.block (N+1) (Qb (Q6 TB8))).trans (Q6 TB8))
  have HO9:=Qa ((hb9.block O (Qb (Q6 HO8))).trans (Q6 HO8))
  have HQ9:=Qa ((Q6 HQ8).below hb9)
  have R2_9:=Qa ((Q6 R2_8).below hb9)
  have R3_9:=Qa ((Q6 R3_8).below hb9)
  have hB9:=hB8.trans (hb9.mono (by omega))
  have hV4:=Qa (hv4.mono (show N≤_ by omega))
  obtain ⟨g4,rfl,_,_,_⟩:=hv4.row
  clear hv4 b0 b1 b2 b3 b4 b5 y0 y1 y2 y3 y4 y5 o0 o1 o2 o3 o4 o5 z0 z1 z2 z3 z4 z5
  obtain ⟨⟨b0,b1,b2,b3,b4,b5⟩,y0,y1,y2,y3,y4,y5⟩:=Qh (Q6 TA9)
  obtain ⟨⟨o0,o1,o2,o3,o4,o5⟩,z0,z1,z2,z3,z4,z5⟩:=Qh (Q6 HO9)
  have TA10:=Qa ((Qf hON 5 (.slice (some ⟨g4,0,none⟩) x.length (x.length+1))).trans (Q6 TA9))
  have TB10:=Qa ((Qf hOM 5 (.slice (some ⟨g4,0,none⟩) x.length (x.length+1))).trans (Q6 TB9))
  have HO10:=Qa ((Qo (Q6 HO9) 5 (.slice (some ⟨g4,0,none⟩) x.length (x.length+1))).trans rfl)
  have HQ10:=Qa ((Q6 HQ9).set (Q6 HO9) 5 (.slice (some ⟨g4,0,none⟩) x.length (x.length+1)))
  have R2_10:=Qa ((Q6 R2_9).set (Q6 HO9) 5 (.slice (some ⟨g4,0,none⟩) x.length (x.length+1)))
  have R3_10:=Qa ((Q6 R3_9).set (Q6 HO9) 5 (.slice (some ⟨g4,0,none⟩) x.length (x.length+1)))
  have R4_10:=Qa ((Q6 hV4).set (Q6 HO9) 5 (.slice (some ⟨g4,0,none⟩) x.length (x.length+1)))
  have hB10:=hB9.setCell (p:=⟨O,5,none⟩) (show N≤O by omega) (.slice (some ⟨g4,0,none⟩) x.length (x.length+1))
  have hs10:N≤(w9.setCell ⟨O,5,none⟩ (.slice (some ⟨g4,0,none⟩) x.length (x.length+1))).heap.size:=by rw [Q0l]; have:=hB9.size; omega
  obtain ⟨⟨m0,m1,m2,m3,m4,m5⟩,n0,n1,n2,n3,n4,n5⟩:=Qh (Q6 TB9)
  go_wp2_with fail
  generalize w9.setCell ⟨O,5,none⟩ (.slice (some ⟨g4,0,none⟩) x.length (x.length+1))=w10 at *
  have hf:=Q4T (Q6 TB10) (.int .i64 id) (.int .i64 fl) (.slice (some ⟨g,0,none⟩) n (n+1)) (.slice (some ⟨g2,0,none⟩) a.length (a.length+1)) (.slice (some ⟨g3,0,none⟩) u.length (u.length+1)) (.slice (some ⟨g4,0,none⟩) x.length (x.length+1))
  obtain ⟨⟨f0,f1,f2,f3,f4,f5⟩,_⟩:=Qh hf
  refine bodyPost_ret (v:=.agg #[.int .i64 id,.int .i64 fl,.slice (some ⟨g,0,none⟩) n (n+1),.slice (some ⟨g2,0,none⟩) a.length (a.length+1),.slice (some ⟨g3,0,none⟩) u.length (u.length+1),.slice (some ⟨g4,0,none⟩) x.length (x.length+1)]) (by simp [results,Tryz.results24,go_sem,f0,f1,f2,f3,f4,f5]) rfl ?_
  refine ⟨⟨_,rfl,_,_,_,_,rfl,?_,?_,?_,?_⟩,Q3a hB10 (by omega) _ _ _ _ _ _⟩
  ·exact (Q6 HQ10).set6 (Q6 TB10) _ _ _ _ _ _
  ·exact (Q6 R2_10).set6 (Q6 TB10) _ _ _ _ _ _
  ·exact (Q6 R3_10).set6 (Q6 TB10) _ _ _ _ _ _
  ·exact (Q6 R4_10).set6 (Q6 TB10) _ _ _ _ _ _
theorem RoomM.msg {w:World} {N N':Nat} {v v':Value} {m:MI} (h:RoomM w N v m) (hm:MsgAt w N' v' m):MsgAt w w.heap.size v m:=by
 obtain ⟨v1,v2,v3,v4,rfl,h1,h2,h3,h4⟩:=h
 obtain ⟨a1,c1,a2,c2,a3,c3,a4,c4,_,_,_,_,_,z1,z2,z3,z4,_⟩:=hm
 obtain ⟨g1,rfl,_,_,r1⟩:=h1.row
 obtain ⟨g2,rfl,_,_,r2⟩:=h2.row
 obtain ⟨g3,rfl,_,_,r3⟩:=h3.row
 obtain ⟨g4,rfl,_,_,r4⟩:=h4.row
 exact ⟨_,_,_,_,_,_,_,_,rfl,r1,r2,r3,r4,z1,z2,z3,z4,by omega,by omega,by omega,by omega⟩
theorem RoomM.below {w w':World} {N:Nat} {v:Value} {m:MI} (h:RoomM w N v m) (hb:Below w.heap.size w w'):RoomM w' N v m:=by
 obtain ⟨v1,v2,v3,v4,e,h1,h2,h3,h4⟩:=h
 exact ⟨v1,v2,v3,v4,e,h1.below hb,h2.below hb,h3.below hb,h4.below hb⟩
set_option maxRecDepth 100000 in
set_option maxHeartbeats 2000000 in
theorem Qfn (m:MI) (v v':Value) (N N':Nat) (w:World) (h1:RoomM w N v m) (h2:MsgAt w N' v' m) (hl:Qgg m) (hN':N'≤w.heap.size) :
  Calls Tryz.prog 27 #[v,v'] w fun e w'=>e=.returned (.bool true)∧Below w.heap.size w w':=by
 have hM:=h1.msg h2
 have K1:=Qa (fun W (hb:Below w.heap.size w W)=>Q7W m v v' w.heap.size N' W (hM.below hb) (h2.below (hb.mono hN')) hl hb.size (Nat.le_trans hN' hb.size))
 obtain ⟨v1,v2,v3,v4,rfl,q1,q2,q3,q4⟩:=h1
 obtain ⟨b1,d1,b2,d2,b3,d3,b4,d4,rfl,r1,r2,r3,r4,_⟩:=h2
 obtain ⟨s1,s2,s3,s4⟩:=hl
 have K2:=Qa (fun W (hb:Below w.heap.size w W)=>Q3C m.a v2 b2 d2 N N' W (q2.below hb) (r2.below (hb.mono hN')) s2)
 have K3:=Qa (fun W (hb:Below w.heap.size w W)=>Q3C m.u v3 b3 d3 N N' W (q3.below hb) (r3.below (hb.mono hN')) s3)
 have K4:=Qa (fun W (hb:Below w.heap.size w W)=>Q3C m.x v4 b4 d4 N N' W (q4.below hb) (r4.below (hb.mono hN')) s4)
 obtain ⟨g2,rfl,_,_,_⟩:=q2.row
 obtain ⟨g3,rfl,_,_,_⟩:=q3.row
 obtain ⟨g4,rfl,_,_,_⟩:=q4.row
 obtain ⟨g,rfl,_,hg⟩:=q1
 have hc:=(Qc hg (m.q.length * 3+1)).trans (Q97 _ _ _ _ _ (Qcb m.q))
 have hlg:=Qb hg
 clear hM q2 q3 q4 r1 r2 r3 r4 hg
 obtain ⟨id,fl,q,a,u,x⟩:=m
 simp only at *
 generalize q.length=n at *
 obtain ⟨W0,hW0⟩:∃ W0,(w.alloc (.cells #[.int .i64 id,.int .i64 fl,.slice (some ⟨g,0,none⟩) n (n+1),.slice (some ⟨g2,0,none⟩) a.length (a.length+1),.slice (some ⟨g3,0,none⟩) u.length (u.length+1),.slice (some ⟨g4,0,none⟩) x.length (x.length+1)] 32)).alloc (.cells #[.int .i64 id,.int .i64 fl,.slice b1 n d1,.slice b2 a.length d2,.slice b3 u.length d3,.slice b4 x.length d4] 32)=W0:=⟨_,rfl⟩
 obtain ⟨tA,tB⟩:=Q2f w (.cells #[.int .i64 id,.int .i64 fl,.slice (some ⟨g,0,none⟩) n (n+1),.slice (some ⟨g2,0,none⟩) a.length (a.length+1),.slice (some ⟨g3,0,none⟩) u.length (u.length+1),.slice (some ⟨g4,0,none⟩) x.length (x.length+1)] 32) (.cells #[.int .i64 id,.int .i64 fl,.slice b1 n d1,.slice b2 a.length d2,.slice b3 u.length d3,.slice b4 x.length d4] 32)
 rw [hW0] at tA tB
 have hBel:Below w.heap.size w W0:=by rw [←hW0]; exact ((Below.refl _ _).alloc (Nat.le_refl _) _).alloc (by simp) _
 have HW0:=Qa hW0
 have TA:=Qa tA
 have TB:=Qa tB
 clear hW0 tA tB
 have h77:((77:Int) == 77)=true:=rfl
 go_enter Tryz.func27,Tryz.ntmps27
 go_wp2_with fail
 rw [Q6 HW0]
 refine (Q6 K1 _ hBel).mono ?_
 rintro e w1 ⟨rfl,hb1⟩
 have hB1:=hBel.trans (hb1.mono hBel.size)
 have TA1:=Qa ((hb1.block _ (Qb (Q6 TA))).trans (Q6 TA))
 have TB1:=Qa ((hb1.block _ (Qb (Q6 TB))).trans (Q6 TB))
 obtain ⟨⟨a0,a1,a2,a3,a4,a5⟩,_⟩:=Qh (Q6 TA1)
 obtain ⟨⟨c0,c1,c2,c3,c4,c5⟩,_⟩:=Qh (Q6 TB1)
 have i1:(0:Int)≤(n:Int)+1:=by omega
 go_wp2_with fail
 refine (Q6 K2 _ hB1).mono ?_
 rintro e w2 ⟨rfl,hb2⟩
 have hB2:=hB1.trans (hb2.mono hB1.size)
 have TA2:=Qa ((hb2.block _ (Qb (Q6 TA1))).trans (Q6 TA1))
 have TB2:=Qa ((hb2.block _ (Qb (Q6 TB1))).trans (Q6 TB1))
 clear a0 a1 a2 a3 a4 a5 c0 c1 c2 c3 c4 c5
 obtain ⟨⟨a0,a1,a2,a3,a4,a5⟩,_⟩:=Qh (Q6 TA2)
 obtain ⟨⟨c0,c1,c2,c3,c4,c5⟩,_⟩:=Qh (Q6 TB2)
 go_wp2_with fail
 refine (Q6 K3 _ hB2).mono ?_
 rintro e w3 ⟨rfl,hb3⟩
 have hB3:=hB2.trans (hb3.mono hB2.size)
 have TA3:=Qa ((hb3.block _ (Qb (Q6 TA2))).trans (Q6 TA2))
 have TB3:=Qa ((hb3.block _ (Qb (Q6 TB2))).trans (Q6 TB2))
 clear a0 a1 a2 a3 a4 a5 c0 c1 c2 c3 c4 c5
 obtain ⟨⟨a0,a1,a2,a3,a4,a5⟩,_⟩:=Qh (Q6 TA3)
 obtain ⟨⟨c0,c1,c2,c3,c4,c5⟩,_⟩:=Qh (Q6 TB3)
 go_wp2_with fail
 refine (Q6 K4 _ hB3).mono ?_
 rintro e w4 ⟨rfl,hb4⟩
 have hB4:=hB3.trans (hb4.mono hB3.size)
 have hc4:=(hB4.cell (p:=⟨g,n * 3+1,none⟩) hlg).trans hc
 clear a0 a1 a2 a3 a4 a5 c0 c1 c2 c3 c4 c5
 go_wp2_with fail
 go_ret
 exact ⟨rfl,hB4⟩
set_option maxRecDepth 100000 in
set_option maxHeartbeats 2000000 in
theorem QdH (m:MI) (v:Value) (w:World) (hm:MsgAt w w.heap.size v m) (hl:Qgg m) :
  Calls Tryz.prog 11 #[v] w fun e w'=>e=.returned (.bool true)∧Below w.heap.size w w':=by
 have K1:=Qa (fun W (hb:Below w.heap.size w W)=>Qhf m v W ((hm.below hb).mono hb.size) hl)
 have K3:=Qa (fun W (hb:Below w.heap.size w W)=>Q3Q m v W ((hm.below hb).mono hb.size))
 have K2:=Qa (fun W (hb:Below w.heap.size w W) v' N (h:RoomM W N v' m)=>Q87 m v' W (h.msg (hm.below hb)))
 have K4:=Qa (fun W (hb:Below w.heap.size w W) v' N (h:RoomM W N v' m)=>Qfn m v' v N w.heap.size W h (hm.below hb) hl hb.size)
 obtain ⟨a1,c1,a2,c2,a3,c3,a4,c4,rfl,_⟩:=hm
 obtain ⟨N,hN⟩:∃ N,w.heap.size=N:=⟨_,rfl⟩
 rw [hN] at K1 K2 K3 K4 ⊢
 generalize hB0:(w.alloc (.cells #[.int .i64 m.id,.int .i64 m.flags,.slice a1 m.q.length c1,.slice a2 m.a.length c2,.slice a3 m.u.length c3,.slice a4 m.x.length c4] 32))=W0
 have hW0:W0.heap[N]? = some (.cells #[.int .i64 m.id,.int .i64 m.flags,.slice a1 m.q.length c1,.slice a2 m.a.length c2,.slice a3 m.u.length c3,.slice a4 m.x.length c4] 32 (0,0)):=by rw [←hB0,←hN]; exact heap_alloc_new _ _
 have hB1:Below N w W0:=by rw [←hB0,←hN]; exact (Below.refl _ _).alloc (Nat.le_refl _) _
 have hs0:W0.heap.size=N+1:=by rw [←hB0]; simp; omega
 have HB0:=Qa hB0
 have HX:=Qa hW0
 clear hB0 hW0
 go_enter Tryz.func11,Tryz.ntmps11
 obtain ⟨⟨b0,b1,b2,b3,b4,b5⟩,_⟩:=Qh (Q6 HX)
 go_wp2_with fail
 rw [Q6 HB0]
 clear HB0
 refine (Q6 K1 _ hB1).mono ?_
 rintro e w1 ⟨⟨v',rfl,hv'⟩,hb1⟩
 have HV1:=Qa hv'
 obtain ⟨v1,v2,v3,v4,rfl,q1,q2,q3,q4⟩:=hv'
 obtain ⟨g1,rfl,_,_,_⟩:=q1.row
 obtain ⟨g2,rfl,_,_,_⟩:=q2.row
 obtain ⟨g3,rfl,_,_,_⟩:=q3.row
 obtain ⟨g4,rfl,_,_,_⟩:=q4.row
 clear q1 q2 q3 q4 K1 b0 b1 b2 b3 b4 b5
 have hB2:=hB1.trans (hb1.mono (by omega))
 have HX1:=Qa ((hb1.block N (by omega)).trans (Q6 HX))
 obtain ⟨R,hR⟩:∃ R,w1.heap.size=R:=⟨_,rfl⟩
 have hs1:=hB2.size
 have hal:=(Below.refl w1.heap.size w1).alloc (Nat.le_refl _) (.cells #[.int .i64 m.id,.int .i64 m.flags,.slice (some ⟨g1,0,none⟩) m.q.length (m.q.length+1),.slice (some ⟨g2,0,none⟩) m.a.length (m.a.length+1),.slice (some ⟨g3,0,none⟩) m.u.length (m.u.length+1),.slice (some ⟨g4,0,none⟩) m.x.length (m.x.length+1)] 32)
 have HXR:=Qa (heap_alloc_new w1 (.cells #[.int .i64 m.id,.int .i64 m.flags,.slice (some ⟨g1,0,none⟩) m.q.length (m.q.length+1),.slice (some ⟨g2,0,none⟩) m.a.length (m.a.length+1),.slice (some ⟨g3,0,none⟩) m.u.length (m.u.length+1),.slice (some ⟨g4,0,none⟩) m.x.length (m.x.length+1)] 32))
 have HV2:=Qa ((Q6 HV1).below hal)
 have HX2:=Qa ((hal.block N (Qb (Q6 HX1))).trans (Q6 HX1))
 have HB2:=Qa (hB2.trans (hal.mono (by omega)))
 rw [hR] at HXR
 clear hal
 go_wp2_with fail
 refine (Q6 K2 _ (Q6 HB2) _ _ (Q6 HV2)).mono ?_
 rintro e w3 ⟨⟨s,x,rfl,hsx⟩,hb3⟩
 have HV3:=Qa ((Q6 HV2).below hb3)
 have HX3:=Qa ((hb3.block N (Qb (Q6 HX2))).trans (Q6 HX2))
 have HR3:=Qa ((hb3.block R (Qb (Q6 HXR))).trans (Q6 HXR))
 have HB3:=Qa ((Q6 HB2).trans (hb3.mono (by have:=(Q6 HB2).size; omega)))
 have HS1:=Qa hsx
 clear hsx hb3 HV2 HX2 HXR HB2
 obtain ⟨⟨b0,b1,b2,b3,b4,b5⟩,_⟩:=Qh (Q6 HX3)
 go_wp2_with fail
 refine (Q6 K3 _ (Q6 HB3)).mono ?_
 rintro e w4 ⟨⟨t,y,rfl,hty⟩,hb4⟩
 obtain ⟨rfl,rfl⟩:=(Q6 HS1).same hty
 have HV4:=Qa ((Q6 HV3).below hb4)
 have HX4:=Qa ((hb4.block N (Qb (Q6 HX3))).trans (Q6 HX3))
 have HR4:=Qa ((hb4.block R (Qb (Q6 HR3))).trans (Q6 HR3))
 have HB4:=Qa ((Q6 HB3).trans (hb4.mono (by have:=(Q6 HB3).size; omega)))
 clear hty hb4 HV3 HX3 HR3 HB3 b0 b1 b2 b3 b4 b5 HS1
 obtain ⟨⟨b0,b1,b2,b3,b4,b5⟩,_⟩:=Qh (Q6 HX4)
 obtain ⟨⟨r0,r1,r2,r3,r4,r5⟩,_⟩:=Qh (Q6 HR4)
 go_wp2_with fail
 refine (Q6 K4 _ (Q6 HB4) _ _ (Q6 HV4)).mono ?_
 rintro e w5 ⟨rfl,hb5⟩
 have HB5:=Qa ((Q6 HB4).trans (hb5.mono (by have:=(Q6 HB4).size; omega)))
 have he1:(s.toList == s.toList)=true:=by simp
 have he2:(x == x)=true:=by simp
 clear b0 b1 b2 b3 b4 b5 r0 r1 r2 r3 r4 r5
 go_wp2_with fail
 go_ret
 exact ⟨rfl,Q6 HB5⟩
end Go.Proofs.YtdhobdmhnocbgabGreatDoor
