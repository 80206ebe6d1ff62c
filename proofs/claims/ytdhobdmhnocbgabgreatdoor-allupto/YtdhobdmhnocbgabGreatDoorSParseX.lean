import Derived.Test.YtdhobdmhnocbgabGreatDoorSRecsW
namespace Go.Proofs.YtdhobdmhnocbgabGreatDoor
open Go.RowKit Zr
def Qg6 (r:Except Int (List Qs × Nat)):Except Int Nat:=match r with
 | .ok (_,p)=>.ok p
 | .error x=>.error x
def QbJ (r:Except Int (List Rc × Nat)):Except Int Nat:=match r with
 | .ok (_,p)=>.ok p
 | .error x=>.error x
def QaY (b:ByteArray) (part:Nat) (st:Except Int Nat) (n:Nat):Except Int (List Rc × Nat) :=
 match st with
 | .ok p=>Q0V b part p n
 | .error x=>.error x
def Qm9 (r:Except Int (List Qs × Nat)) (m:Nat) (cs:List Value):Prop:=∀ l p,r=.ok (l,p)→m=l.length∧cs=Q1M l
def QjJ (r:Except Int (List Rc × Nat)) (m:Nat) (cs:List Value):Prop:=∀ l p,r=.ok (l,p)→m=l.length∧cs=Q0e l
theorem Q3f {w:World} {N:Nat} {e:TypeId} {size:Nat} {v:Value} {n:Nat} {xs:List Value} (h:w.ownsRow N e size v n xs):∃ a c,v=.slice a n c:=by
 rcases h.2 with ⟨rfl,rfl⟩ | ⟨g,cap,cur,rfl,_⟩
 ·exact ⟨_,_,rfl⟩
 ·exact ⟨_,_,rfl⟩
theorem Q1r {w:World} {N N':Nat} {e:TypeId} {size:Nat} {v:Value} {n:Nat} {xs:List Value} (h:w.ownsRow N e size v n xs) (hN:N'≤N):w.ownsRow N' e size v n xs:=by
 refine ⟨h.1,?_⟩
 rcases h.2 with h2 | ⟨g,cap,cur,h1,h2,h3⟩
 ·exact .inl h2
 ·exact .inr ⟨g,cap,cur,h1,by omega,h3⟩
def Apart (u v:Value):Prop:=∀ g,u.ownBlock=some g→v.ownBlock≠some g
theorem Q4W {w w':World} {N M:Nat} {e e':TypeId} {size size':Nat} {u v:Value} {n n':Nat} {xs xs':List Value} (h:w.ownsRow N e size u n xs) (h':w'.ownsRow M e' size' v n' xs') (hM:w.heap.size≤M):Apart u v:=by
 intro g hg hv
 have h1:=(h.lt g hg).2
 have h2:=(h'.lt g hv).1
 omega
theorem Qcf (R:Nat) (b:ByteArray) (st:Except Int Nat) (n:Nat) (w:World) (hb:b.size≤65535) (hR:At w R b st) (hn:n≤65535) :
  Calls Tryz.prog 113 #[.pointer (some ⟨R,0,none⟩),.int .i64 n] w fun e w'=>∃ a m c cs,e=.returned (.slice a m c)∧w'.ownsRow w.heap.size 91 3 (.slice a m c) m cs∧At w' R b (Qg6 (Qh7 b st n))∧Qm9 (Qh7 b st n) m cs∧w.grownBy w' (some R):=by
 cases st with
 | error x =>
  refine (QaV R b x n w hR).mono ?_
  rintro e w' ⟨rfl,rfl⟩
  exact ⟨none,0,0,[],rfl,World.ownsRow_nil _ _ _ _,hR,fun l p h=>by simp [Qh7] at h,Q3d _ _⟩
 | ok k =>
  refine (Qce R b k n w hb hR hn).mono ?_
  rintro e w' ⟨hg,v,m,cs,rfl,hown,hpost⟩
  obtain ⟨a,c,rfl⟩:=Q3f hown
  refine ⟨a,m,c,cs,rfl,hown,?_,?_,hg⟩
  ·show At w' R b (Qg6 (Q1N b k n))
   cases h:Q1N b k n with
   | ok z=>obtain ⟨l,p⟩:=z; rw [h] at hpost; exact hpost.1
   | error x=>rw [h] at hpost; exact hpost
  ·intro l p h
   have h':Q1N b k n=.ok (l,p):=h
   rw [h'] at hpost
   exact hpost.2
theorem Q7e (R:Nat) (b:ByteArray) (part:Nat) (ex:Bool) (st:Except Int Nat) (n:Nat) (w:World) (hb:b.size≤65535) (hR:At w R b st) (hn:n≤65535) (hex:ex=(part == 2)) :
  Calls Tryz.prog 114 #[.pointer (some ⟨R,0,none⟩),.int .i64 n,.bool ex] w fun e w'=>∃ a m c cs,e=.returned (.slice a m c)∧w'.ownsRow w.heap.size 61 5 (.slice a m c) m cs∧At w' R b (QbJ (QaY b part st n))∧QjJ (QaY b part st n) m cs∧w.grownBy w' (some R):=by
 cases st with
 | error x =>
  refine (Qdz R b x n ex w hR).mono ?_
  rintro e w' ⟨rfl,rfl⟩
  exact ⟨none,0,0,[],rfl,World.ownsRow_nil _ _ _ _,hR,fun l p h=>by simp [QaY] at h,Q3d _ _⟩
 | ok k =>
  refine (QeY R b part k n ex w hb hR hn hex).mono ?_
  rintro e w' ⟨hg,v,m,cs,rfl,hown,hpost⟩
  obtain ⟨a,c,rfl⟩:=Q3f hown
  refine ⟨a,m,c,cs,rfl,hown,?_,?_,hg⟩
  ·show At w' R b (QbJ (Q0V b part k n))
   cases h:Q0V b part k n with
   | ok z=>obtain ⟨l,p⟩:=z; rw [h] at hpost; exact hpost.1
   | error x=>rw [h] at hpost; exact hpost
  ·intro l p h
   have h':Q0V b part k n=.ok (l,p):=h
   rw [h'] at hpost
   exact hpost.2
theorem Qh {w:World} {k:Nat} {x y z u v r:Value} {t:TypeId} (h:w.heap[k]? = some (.cells #[x,y,z,u,v,r] t (0,0))) :
  (w.cell? ⟨k,0,none⟩=some x∧w.cell? ⟨k,1,none⟩=some y∧w.cell? ⟨k,2,none⟩=some z∧w.cell? ⟨k,3,none⟩=some u∧w.cell? ⟨k,4,none⟩=some v∧w.cell? ⟨k,5,none⟩=some r) ∧
  (w.frozen? ⟨k,0,none⟩=false∧w.frozen? ⟨k,1,none⟩=false∧w.frozen? ⟨k,2,none⟩=false∧w.frozen? ⟨k,3,none⟩=false∧w.frozen? ⟨k,4,none⟩=false∧w.frozen? ⟨k,5,none⟩=false):=by
 refine ⟨⟨?_,?_,?_,?_,?_,?_⟩,Qd h _,Qd h _,Qd h _,Qd h _,Qd h _,Qd h _⟩ <;> (rw [Qc h]; rfl)
theorem Q4T {w:World} {P:Nat} {x0 x1 x2 x3 x4 x5:Value} {t:TypeId} (h:w.heap[P]? = some (.cells #[x0,x1,x2,x3,x4,x5] t (0,0))) (v0 v1 v2 v3 v4 v5:Value) :
  ((((((w.setCell ⟨P,0,none⟩ v0).setCell ⟨P,1,none⟩ v1).setCell ⟨P,2,none⟩ v2).setCell ⟨P,3,none⟩ v3).setCell ⟨P,4,none⟩ v4).setCell ⟨P,5,none⟩ v5).heap[P]? = some (.cells #[v0,v1,v2,v3,v4,v5] t (0,0)):=by
 rw [Qo (Qo (Qo (Qo (Qo (Qo h _ _) _ _) _ _) _ _) _ _) _ _]; rfl
def Q25:Obj:=.cells #[.int .i64 0,.int .i64 0,.slice none 0 0,.slice none 0 0,.slice none 0 0,.slice none 0 0] 32 (0,0)
theorem Q4l {w w1:World} {N:Nat} {e:TypeId} {size:Nat} {v:Value} {n:Nat} {xs:List Value} {R P o:Nat} {u:Value} (h:w.ownsRow N e size v n xs) (hg:w.grownBy w1 (some R)) (hR:R < N) (hP:P < N):(w1.setCell ⟨P,o,none⟩ u).ownsRow N e size v n xs :=
 Q0p (Q0p h hg hR) (Ql _ _ _ _) hP
set_option maxHeartbeats 2000000 in
theorem Q7K (R:Nat) (b:ByteArray) (s0 s1 s2 s3 s4 s5 s6:Except Int Nat) (id fl n1 n2 n3 n4:Nat) (w:World) (hb:b.size≤65535) (hR:At w R b s0)
  (e1:Hid (Q0O b s0 2=(s1,id))) (e2:Hid (Q0O b s1 2=(s2,fl))) (e3:Hid (Q0O b s2 2=(s3,n1))) (e4:Hid (Q0O b s3 2=(s4,n2))) (e5:Hid (Q0O b s4 2=(s5,n3))) (e6:Hid (Q0O b s5 2=(s6,n4)))
  (h1:n1≤65535) (h2:n2≤65535) (h3:n3≤65535) (h4:n4≤65535) (t1 t2 t3 t4:Except Int Nat) (f1:Hid (t1=Qg6 (Qh7 b s6 n1))) (f2:Hid (t2=QbJ (QaY b 0 t1 n2))) (f3:Hid (t3=QbJ (QaY b 1 t2 n3))) (f4:Hid (t4=QbJ (QaY b 2 t3 n4))) :
  Calls Tryz.prog 78 #[.pointer (some ⟨R,0,none⟩)] w fun e w'=>w.grownBy w' (some R)∧At w' R b t4∧∃ a1 m1 c1 d1 a2 m2 c2 d2 a3 m3 c3 d3 a4 m4 c4 d4,
   e=.returned (.agg #[.int .i64 id,.int .i64 fl,.slice a1 m1 c1,.slice a2 m2 c2,.slice a3 m3 c3,.slice a4 m4 c4]) ∧
   w'.ownsRow w.heap.size 91 3 (.slice a1 m1 c1) m1 d1∧Qm9 (Qh7 b s6 n1) m1 d1 ∧
   w'.ownsRow w.heap.size 61 5 (.slice a2 m2 c2) m2 d2∧QjJ (QaY b 0 t1 n2) m2 d2 ∧
   w'.ownsRow w.heap.size 61 5 (.slice a3 m3 c3) m3 d3∧QjJ (QaY b 1 t2 n3) m3 d3 ∧
   w'.ownsRow w.heap.size 61 5 (.slice a4 m4 c4) m4 d4∧QjJ (QaY b 2 t3 n4) m4 d4 ∧
   Apart (.slice a1 m1 c1) (.slice a2 m2 c2)∧Apart (.slice a1 m1 c1) (.slice a3 m3 c3)∧Apart (.slice a1 m1 c1) (.slice a4 m4 c4) ∧
   Apart (.slice a2 m2 c2) (.slice a3 m3 c3)∧Apart (.slice a2 m2 c2) (.slice a4 m4 c4)∧Apart (.slice a3 m3 c3) (.slice a4 m4 c4):=by
 have hRl:=hR.lt
 generalize hN:w.heap.size=N
 rw [hN] at hRl
 go_enter Tryz.func78,Tryz.ntmps78
 go_wp2_with fail
 have hA:=(Q2f w Q25 Q25).1
 have hB:=(Q2f w Q25 Q25).2
 have hG:=Q2V w Q25 Q25 (some R)
 have hR0:At ((w.alloc Q25).alloc Q25) R b s0:=hR.keep ((Below.heap_alloc _ _ _ (by simp; omega)).trans (Below.heap_alloc _ _ _ (by omega)))
 rw [hN] at hA hB
 unfold Q25 at hA hB hG hR0
 generalize (w.alloc (.cells #[.int .i64 0,.int .i64 0,.slice none 0 0,.slice none 0 0,.slice none 0 0,.slice none 0 0] 32 (0,0))).alloc (.cells #[.int .i64 0,.int .i64 0,.slice none 0 0,.slice none 0 0,.slice none 0 0,.slice none 0 0] 32 (0,0))=w0 at *
 have HA:=Qa hA
 have HB:=Qa hB
 clear hA hB hR
 refine (Q2k R b s0 2 _ hb hR0 (by omega) (by omega)).mono ?_
 rw [show (2:Int).toNat=2 from rfl,Q6 e1]
 rintro e w1 ⟨rfl,hAt1,hg1⟩
 obtain ⟨a1,b1,d1,l1,p1⟩:=Q1d (o:=0) (.int .i64 id) hg1 hAt1 (Q6 HA) (Q6 HB) (by omega) (by omega) (by omega)
 obtain ⟨⟨x0,x1,x2,x3,x4,x5⟩,y0,y1,y2,y3,y4,y5⟩:=Qh p1
 have hG1:=Q0i (Qp hG hg1) (N+1) 0 (.int .i64 id) (by omega)
 clear p1 hR0 hG hg1 hAt1 HA HB e1
 go_wp2_with fail
 generalize w1.setCell ⟨N+1,0,none⟩ (.int .i64 id)=w2 at *
 clear x0 x1 x2 x3 x4 x5 y0 y1 y2 y3 y4 y5 l1 w1
 refine (Q2k R b s1 2 _ hb a1 (by omega) (by omega)).mono ?_
 rw [show (2:Int).toNat=2 from rfl,Q6 e2]
 rintro e w1 ⟨rfl,hAt1,hg1⟩
 obtain ⟨a2,b2,d2,l2,p2⟩:=Q1d (o:=1) (.int .i64 fl) hg1 hAt1 b1 d1 (by omega) (by omega) (by omega)
 obtain ⟨⟨x0,x1,x2,x3,x4,x5⟩,y0,y1,y2,y3,y4,y5⟩:=Qh p2
 have hG2:=Q0i (Qp hG1 hg1) (N+1) 1 (.int .i64 fl) (by omega)
 clear p2 a1 b1 d1 hG1 hg1 hAt1 e2
 go_wp2_with fail
 generalize w1.setCell ⟨N+1,1,none⟩ (.int .i64 fl)=w3 at *
 clear x0 x1 x2 x3 x4 x5 y0 y1 y2 y3 y4 y5 l2 w1 w2
 refine (Q2k R b s2 2 _ hb a2 (by omega) (by omega)).mono ?_
 rw [show (2:Int).toNat=2 from rfl,Q6 e3]
 rintro e w4 ⟨rfl,a3,hg3⟩
 have b3:=Q1S hg3 b2 (by omega)
 have d3:=Q1S hg3 d2 (by omega)
 have hG3:=Qp hG2 hg3
 clear a2 b2 d2 hG2 hg3 e3
 go_wp2_with fail
 refine (Q2k R b s3 2 _ hb a3 (by omega) (by omega)).mono ?_
 rw [show (2:Int).toNat=2 from rfl,Q6 e4]
 rintro e w5 ⟨rfl,a4,hg4⟩
 have b4:=Q1S hg4 b3 (by omega)
 have d4:=Q1S hg4 d3 (by omega)
 have hG4:=Qp hG3 hg4
 clear a3 b3 d3 hG3 hg4 e4
 go_wp2_with fail
 refine (Q2k R b s4 2 _ hb a4 (by omega) (by omega)).mono ?_
 rw [show (2:Int).toNat=2 from rfl,Q6 e5]
 rintro e w6 ⟨rfl,a5,hg5⟩
 have b5:=Q1S hg5 b4 (by omega)
 have d5:=Q1S hg5 d4 (by omega)
 have hG5:=Qp hG4 hg5
 clear a4 b4 d4 hG4 hg5 e5
 go_wp2_with fail
 refine (Q2k R b s5 2 _ hb a5 (by omega) (by omega)).mono ?_
 rw [show (2:Int).toNat=2 from rfl,Q6 e6]
 rintro e w7 ⟨rfl,a6,hg6⟩
 have b6:=Q1S hg6 b5 (by omega)
 have d6:=Q1S hg6 d5 (by omega)
 have hG6:=Qp hG5 hg6
 have hs6:N+1 < w7.heap.size:=Qb d6
 clear a5 b5 d5 hG5 hg6 e6
 go_wp2_with fail
 refine (Qcf R b s6 n1 _ hb a6 h1).mono ?_
 rintro e w8 ⟨qa,qm,qc,qd,rfl,qown,hAt7,qrow,hg7⟩
 rw [←Q6 f1] at hAt7
 obtain ⟨a7,b7,d7,l7,p7⟩:=Q1d (o:=2) (.slice qa qm qc) hg7 hAt7 b6 d6 (by omega) (by omega) (by omega)
 obtain ⟨⟨x0,x1,x2,x3,x4,x5⟩,y0,y1,y2,y3,y4,y5⟩:=Qh p7
 have hG7:=Q0i (Qp hG6 hg7) (N+1) 2 (.slice qa qm qc) (by omega)
 have q7:(w8.setCell ⟨N+1,2,none⟩ (.slice qa qm qc)).ownsRow (N+2) 91 3 (.slice qa qm qc) qm qd:=Q0p (Q1r qown (by omega)) (Ql _ _ _ _) (by omega)
 have Q7:=Qa q7
 have QR:=Qa qrow
 clear p7 a6 b6 d6 hG6 hg7 hAt7 qown qrow q7 hs6
 go_wp2_with fail
 generalize w8.setCell ⟨N+1,2,none⟩ (.slice qa qm qc)=z7 at *
 clear x0 x1 x2 x3 x4 x5 y0 y1 y2 y3 y4 y5 l7 w8 w7
 have hs7:N+1 < z7.heap.size:=Qb d7
 refine (Q7e R b 0 false t1 n2 _ hb a7 h2 rfl).mono ?_
 rintro e w8 ⟨aa,am,ac,ad,rfl,aown,hAt8,arow,hg8⟩
 rw [←Q6 f2] at hAt8
 obtain ⟨a8,b8,d8,l8,p8⟩:=Q1d (o:=3) (.slice aa am ac) hg8 hAt8 b7 d7 (by omega) (by omega) (by omega)
 obtain ⟨⟨x0,x1,x2,x3,x4,x5⟩,y0,y1,y2,y3,y4,y5⟩:=Qh p8
 have hG8:=Q0i (Qp hG7 hg8) (N+1) 3 (.slice aa am ac) (by omega)
 have A8:=Qa (Q0p (Q1r aown (show N+2≤z7.heap.size by omega)) (Ql w8 (N+1) 3 (.slice aa am ac)) (by omega))
 have Q8:=Qa (Q4l (P:=N+1) (o:=3) (u:=.slice aa am ac) (Q6 Q7) hg8 (by omega) (by omega))
 have AR:=Qa arow
 have ap1:=Qa (Q4W (Q6 Q7) aown (Nat.le_refl _))
 clear p8 a7 b7 d7 hG7 hg8 hAt8 aown arow Q7 hs7
 go_wp2_with fail
 generalize w8.setCell ⟨N+1,3,none⟩ (.slice aa am ac)=z8 at *
 clear x0 x1 x2 x3 x4 x5 y0 y1 y2 y3 y4 y5 l8 w8
 have hs8:N+1 < z8.heap.size:=Qb d8
 refine (Q7e R b 1 false t2 n3 _ hb a8 h3 rfl).mono ?_
 rintro e w8 ⟨ua,um,uc,ud,rfl,uown,hAt9,urow,hg9⟩
 rw [←Q6 f3] at hAt9
 obtain ⟨a9,b9,d9,l9,p9⟩:=Q1d (o:=4) (.slice ua um uc) hg9 hAt9 b8 d8 (by omega) (by omega) (by omega)
 obtain ⟨⟨x0,x1,x2,x3,x4,x5⟩,y0,y1,y2,y3,y4,y5⟩:=Qh p9
 have hG9:=Q0i (Qp hG8 hg9) (N+1) 4 (.slice ua um uc) (by omega)
 have U9:=Qa (Q0p (Q1r uown (show N+2≤z8.heap.size by omega)) (Ql w8 (N+1) 4 (.slice ua um uc)) (by omega))
 have Q9:=Qa (Q4l (P:=N+1) (o:=4) (u:=.slice ua um uc) (Q6 Q8) hg9 (by omega) (by omega))
 have A9:=Qa (Q4l (P:=N+1) (o:=4) (u:=.slice ua um uc) (Q6 A8) hg9 (by omega) (by omega))
 have UR:=Qa urow
 have ap2:=Qa (Q4W (Q6 Q8) uown (Nat.le_refl _))
 have ap3:=Qa (Q4W (Q6 A8) uown (Nat.le_refl _))
 clear p9 a8 b8 d8 hG8 hg9 hAt9 uown urow Q8 A8 hs8
 go_wp2_with fail
 generalize w8.setCell ⟨N+1,4,none⟩ (.slice ua um uc)=z9 at *
 clear x0 x1 x2 x3 x4 x5 y0 y1 y2 y3 y4 y5 l9 w8
 have hs9:N+1 < z9.heap.size:=Qb d9
 refine (Q7e R b 2 true t3 n4 _ hb a9 h4 rfl).mono ?_
 rintro e w8 ⟨xa,xm,xc,xd,rfl,xown,hAtX,xrow,hgX⟩
 rw [←Q6 f4] at hAtX
 obtain ⟨aX,bX,dX,lX,pX⟩:=Q1d (o:=5) (.slice xa xm xc) hgX hAtX b9 d9 (by omega) (by omega) (by omega)
 obtain ⟨⟨x0,x1,x2,x3,x4,x5⟩,y0,y1,y2,y3,y4,y5⟩:=Qh pX
 have hGX:=Q0i (Qp hG9 hgX) (N+1) 5 (.slice xa xm xc) (by omega)
 have XX:=Qa (Q0p (Q1r xown (show N+2≤z9.heap.size by omega)) (Ql w8 (N+1) 5 (.slice xa xm xc)) (by omega))
 have QX:=Qa (Q4l (P:=N+1) (o:=5) (u:=.slice xa xm xc) (Q6 Q9) hgX (by omega) (by omega))
 have AX:=Qa (Q4l (P:=N+1) (o:=5) (u:=.slice xa xm xc) (Q6 A9) hgX (by omega) (by omega))
 have UX:=Qa (Q4l (P:=N+1) (o:=5) (u:=.slice xa xm xc) (Q6 U9) hgX (by omega) (by omega))
 have XR:=Qa xrow
 have ap4:=Qa (Q4W (Q6 Q9) xown (Nat.le_refl _))
 have ap5:=Qa (Q4W (Q6 A9) xown (Nat.le_refl _))
 have ap6:=Qa (Q4W (Q6 U9) xown (Nat.le_refl _))
 obtain ⟨⟨u0,u1,u2,u3,u4,u5⟩,v0,v1,v2,v3,v4,v5⟩:=Qh bX
 obtain ⟨⟨q0,q1,q2,q3,q4,q5⟩,o0,o1,o2,o3,o4,o5⟩:=Qh (show (w8.setCell ⟨N+1,5,none⟩ (.slice xa xm xc)).heap[N+1]? = some (.cells #[.int .i64 id,.int .i64 fl,.slice qa qm qc,.slice aa am ac,.slice ua um uc,.slice xa xm xc] 32 (0,0)) from dX)
 have BX:=Qa bX
 clear pX a9 b9 d9 hG9 hgX hAtX xown xrow Q9 A9 U9 hs9 bX
 go_wp2_with fail
 generalize w8.setCell ⟨N+1,5,none⟩ (.slice xa xm xc)=wz at *
 obtain ⟨⟨g0,g1,g2,g3,g4,g5⟩,_⟩:=Qh (Q4T (Q6 BX) (.int .i64 id) (.int .i64 fl) (.slice qa qm qc) (.slice aa am ac) (.slice ua um uc) (.slice xa xm xc))
 have keep:∀ {e:TypeId} {size:Nat} {v:Value} {n:Nat} {xs:List Value},wz.ownsRow (N+2) e size v n xs→((((((wz.setCell ⟨N,0,none⟩ (.int .i64 id)).setCell ⟨N,1,none⟩ (.int .i64 fl)).setCell ⟨N,2,none⟩ (.slice qa qm qc)).setCell ⟨N,3,none⟩ (.slice aa am ac)).setCell ⟨N,4,none⟩ (.slice ua um uc)).setCell ⟨N,5,none⟩ (.slice xa xm xc)).ownsRow N e size v n xs:=by
  intro e size v n xs h
  refine Q1r (N:=N+2) ?_ (by omega)
  exact Q0p (Q0p (Q0p (Q0p (Q0p (Q0p h (Ql _ N _ _) (by omega)) (Ql _ N _ _) (by omega)) (Ql _ N _ _) (by omega)) (Ql _ N _ _) (by omega)) (Ql _ N _ _) (by omega)) (Ql _ N _ _) (by omega)
 refine bodyPost_ret (v:=.agg #[.int .i64 id,.int .i64 fl,.slice qa qm qc,.slice aa am ac,.slice ua um uc,.slice xa xm xc]) (by simp [results,Tryz.results78,go_sem,g0,g1,g2,g3,g4,g5]) rfl ⟨?_,?_,?_⟩
 ·exact Q0i (Q0i (Q0i (Q0i (Q0i (Q0i hGX N 0 _ (by omega)) N 1 _ (by omega)) N 2 _ (by omega)) N 3 _ (by omega)) N 4 _ (by omega)) N 5 _ (by omega)
 ·exact aX.keep ((Qf (by omega) _ _).trans ((Qf (by omega) _ _).trans ((Qf (by omega) _ _).trans ((Qf (by omega) _ _).trans ((Qf (by omega) _ _).trans (Qf (by omega) _ _))))))
 ·exact ⟨qa,qm,qc,qd,aa,am,ac,ad,ua,um,uc,ud,xa,xm,xc,xd,rfl,keep (Q6 QX),Q6 QR,keep (Q6 AX),Q6 AR,keep (Q6 UX),Q6 UR,keep (Q6 XX),Q6 XR,Q6 ap1,Q6 ap2,Q6 ap4,Q6 ap3,Q6 ap5,Q6 ap6⟩
def MsgIs (w':World) (N:Nat) (v:Value) (m:Msg):Prop :=
 ∃ a1 c1 a2 c2 a3 c3 a4 c4,v=.agg #[.int .i64 m.id,.int .i64 m.flags,.slice a1 m.q.length c1,.slice a2 m.a.length c2,.slice a3 m.u.length c3,.slice a4 m.x.length c4] ∧
  w'.ownsRow N 91 3 (.slice a1 m.q.length c1) m.q.length (Q1M m.q)∧w'.ownsRow N 61 5 (.slice a2 m.a.length c2) m.a.length (Q0e m.a) ∧
  w'.ownsRow N 61 5 (.slice a3 m.u.length c3) m.u.length (Q0e m.u)∧w'.ownsRow N 61 5 (.slice a4 m.x.length c4) m.x.length (Q0e m.x) ∧
  Apart (.slice a1 m.q.length c1) (.slice a2 m.a.length c2)∧Apart (.slice a1 m.q.length c1) (.slice a3 m.u.length c3)∧Apart (.slice a1 m.q.length c1) (.slice a4 m.x.length c4) ∧
  Apart (.slice a2 m.a.length c2) (.slice a3 m.u.length c3)∧Apart (.slice a2 m.a.length c2) (.slice a4 m.x.length c4)∧Apart (.slice a3 m.u.length c3) (.slice a4 m.x.length c4)
def QiM:Msg:=⟨0,0,[],[],[],[]⟩
def Q33:Value:=.agg #[.int .i64 0,.int .i64 0,.slice none 0 0,.slice none 0 0,.slice none 0 0,.slice none 0 0]
theorem QiN (w:World) (N:Nat):MsgIs w N Q33 QiM :=
 ⟨none,0,none,0,none,0,none,0,rfl,World.ownsRow_nil _ _ _ _,World.ownsRow_nil _ _ _ _,World.ownsRow_nil _ _ _ _,World.ownsRow_nil _ _ _ _,
  fun g h=>by simp [Value.ownBlock] at h,fun g h=>by simp [Value.ownBlock] at h,fun g h=>by simp [Value.ownBlock] at h,fun g h=>by simp [Value.ownBlock] at h,fun g h=>by simp [Value.ownBlock] at h,fun g h=>by simp [Value.ownBlock] at h⟩
def QgR (b:ByteArray):Except Int (Msg × Nat) :=
 if b.size < 12 then .error 2
 else match Q1N b 12 (num b 4 2) with
  | .error e=>.error e
  | .ok (q,p1)=>match Q0V b 0 p1 (num b 6 2) with
   | .error e=>.error e
   | .ok (a,p2)=>match Q0V b 1 p2 (num b 8 2) with
    | .error e=>.error e
    | .ok (u,p3)=>match Q0V b 2 p3 (num b 10 2) with
     | .error e=>.error e
     | .ok (x,p4)=>.ok (⟨num b 0 2,num b 2 2,q,a,u,x⟩,p4)
theorem Qh1 (b:ByteArray) (h:b.size≤65535):Q0X b=match QgR b with
  | .error e=>.error e
  | .ok (m,p)=>if p≠b.size then .error 6 else .ok m:=by
 unfold Q0X QgR
 rw [if_neg (by omega)]
 by_cases c:b.size < 12
 ·rw [if_pos c,if_pos c]
 ·rw [if_neg c,if_neg c]
  cases Q1N b 12 (num b 4 2) with
  | error e=>rfl
  | ok z =>
   obtain ⟨q,p1⟩:=z
   simp only
   cases Q0V b 0 p1 (num b 6 2) with
   | error e=>rfl
   | ok z =>
    obtain ⟨a,p2⟩:=z
    simp only
    cases Q0V b 1 p2 (num b 8 2) with
    | error e=>rfl
    | ok z =>
     obtain ⟨u,p3⟩:=z
     simp only
     cases Q0V b 2 p3 (num b 10 2) with
     | error e=>rfl
     | ok z=>rfl
theorem Q7L (b:ByteArray) (st:Except Int Nat):(Q0O b st 2).2≤65535:=by
 cases st with
 | error x=>exact Nat.zero_le _
 | ok p =>
  unfold Q0O
  simp only
  split
  ·have:=Q0n b p; simp only; omega
  ·exact Nat.zero_le _
theorem Q68 {p q r:Prop} (h:p∨(q∧r)):p∨q:=by
 rcases h with h | ⟨h,_⟩
 ·exact .inl h
 ·exact .inr h
theorem Qey (b:ByteArray) (h:b.size < 12) :
  (Q0O b (Q0O b (Q0O b (Q0O b (Q0O b (Q0O b (.ok 0) 2).1 2).1 2).1 2).1 2).1 2).1=.error 2:=by
 have step:∀ (k:Nat) (st:Except Int Nat),(st=.error 2∨st=.ok k)→((Q0O b st 2).1=.error 2∨((Q0O b st 2).1=.ok (k+2)∧k+2≤b.size)):=by
  intro k st hst
  rcases hst with rfl | rfl
  ·exact .inl rfl
  ·by_cases c:k+2≤b.size
   ·exact .inr ⟨by rw [Q34 b k 2 c],c⟩
   ·exact .inl (by rw [Q7M b k 2 c])
 have s1:=step 0 (.ok 0) (.inr rfl)
 have s2:=step 2 _ (Q68 s1)
 have s3:=step 4 _ (Q68 s2)
 have s4:=step 6 _ (Q68 s3)
 have s5:=step 8 _ (Q68 s4)
 have s6:=step 10 _ (Q68 s5)
 rcases s6 with s6 | ⟨_,s6⟩
 ·exact s6
 ·omega
def QjI (R N:Nat) (b:ByteArray) (w:World) (e:Ending) (w':World):Prop :=
 w.grownBy w' (some R)∧∃ i f a1 m1 c1 a2 m2 c2 a3 m3 c3 a4 m4 c4,e=.returned (.agg #[.int .i64 i,.int .i64 f,.slice a1 m1 c1,.slice a2 m2 c2,.slice a3 m3 c3,.slice a4 m4 c4]) ∧
  ((∃ m p,QgR b=.ok (m,p)∧At w' R b (.ok p)∧MsgIs w' N (.agg #[.int .i64 i,.int .i64 f,.slice a1 m1 c1,.slice a2 m2 c2,.slice a3 m3 c3,.slice a4 m4 c4]) m)∨(∃ x,QgR b=.error x∧At w' R b (.error x)))
theorem Qc5 (R:Nat) (b:ByteArray) (w:World) (hb:b.size≤65535) (hR:At w R b (.ok 0)) :
  Calls Tryz.prog 78 #[.pointer (some ⟨R,0,none⟩)] w fun e w'=>QjI R w.heap.size b w e w':=by
 by_cases c:b.size < 12
 ·have hs:=Qey b c
  obtain ⟨s1,id,e1⟩:∃ s v,Q0O b (.ok 0) 2=(s,v):=⟨_,_,rfl⟩
  rw [e1] at hs
  obtain ⟨s2,fl,e2⟩:∃ s v,Q0O b s1 2=(s,v):=⟨_,_,rfl⟩
  simp only at hs
  rw [e2] at hs
  obtain ⟨s3,n1,e3⟩:∃ s v,Q0O b s2 2=(s,v):=⟨_,_,rfl⟩
  simp only at hs
  rw [e3] at hs
  obtain ⟨s4,n2,e4⟩:∃ s v,Q0O b s3 2=(s,v):=⟨_,_,rfl⟩
  simp only at hs
  rw [e4] at hs
  obtain ⟨s5,n3,e5⟩:∃ s v,Q0O b s4 2=(s,v):=⟨_,_,rfl⟩
  simp only at hs
  rw [e5] at hs
  obtain ⟨s6,n4,e6⟩:∃ s v,Q0O b s5 2=(s,v):=⟨_,_,rfl⟩
  simp only at hs
  rw [e6] at hs
  simp only at hs
  subst hs
  have l1:=Q7L b s2
  have l2:=Q7L b s3
  have l3:=Q7L b s4
  have l4:=Q7L b s5
  rw [e3] at l1
  rw [e4] at l2
  rw [e5] at l3
  rw [e6] at l4
  refine (Q7K R b (.ok 0) s1 s2 s3 s4 s5 (.error 2) id fl n1 n2 n3 n4 w hb hR e1 e2 e3 e4 e5 e6 l1 l2 l3 l4 (.error 2) (.error 2) (.error 2) (.error 2) rfl rfl rfl rfl).mono ?_
  rintro e w' ⟨h1,h2,a1,m1,c1,d1,a2,m2,c2,d2,a3,m3,c3,d3,a4,m4,c4,d4,h3,_⟩
  exact ⟨h1,_,_,_,_,_,_,_,_,_,_,_,_,_,_,h3,.inr ⟨2,by unfold QgR; rw [if_pos c],h2⟩⟩
 ·have e1:Q0O b (.ok 0) 2=(.ok 2,num b 0 2):=Q34 b 0 2 (by omega)
  have e2:Q0O b (.ok 2) 2=(.ok 4,num b 2 2):=Q34 b 2 2 (by omega)
  have e3:Q0O b (.ok 4) 2=(.ok 6,num b 4 2):=Q34 b 4 2 (by omega)
  have e4:Q0O b (.ok 6) 2=(.ok 8,num b 6 2):=Q34 b 6 2 (by omega)
  have e5:Q0O b (.ok 8) 2=(.ok 10,num b 8 2):=Q34 b 8 2 (by omega)
  have e6:Q0O b (.ok 10) 2=(.ok 12,num b 10 2):=Q34 b 10 2 (by omega)
  have l4:=Q0n b 4
  have l6:=Q0n b 6
  have l8:=Q0n b 8
  have l10:=Q0n b 10
  refine (Q7K R b (.ok 0) _ _ _ _ _ _ _ _ _ _ _ _ w hb hR e1 e2 e3 e4 e5 e6 (by omega) (by omega) (by omega) (by omega) _ _ _ _ rfl rfl rfl rfl).mono ?_
  rintro e w' ⟨h1,h2,a1,m1,c1,d1,a2,m2,c2,d2,a3,m3,c3,d3,a4,m4,c4,d4,h3,o1,r1,o2,r2,o3,r3,o4,r4,ap⟩
  refine ⟨h1,_,_,_,_,_,_,_,_,_,_,_,_,_,_,h3,?_⟩
  clear h3
  unfold QgR
  rw [if_neg c]
  simp only [Qh7] at h2 r1 r2 r3 r4
  cases hq:Q1N b 12 (num b 4 2) with
  | error x =>
   rw [hq] at h2
   exact .inr ⟨x,rfl,h2⟩
  | ok z =>
   obtain ⟨q,p1⟩:=z
   simp only [hq,Qg6,QaY] at h2 r2 r3 r4 ⊢
   obtain ⟨rfl,rfl⟩:=r1 q p1 hq
   cases ha:Q0V b 0 p1 (num b 6 2) with
   | error x =>
    rw [ha] at h2
    exact .inr ⟨x,rfl,h2⟩
   | ok z =>
    obtain ⟨a,p2⟩:=z
    simp only [ha,QbJ] at h2 r3 r4 ⊢
    obtain ⟨rfl,rfl⟩:=r2 a p2 ha
    cases hu:Q0V b 1 p2 (num b 8 2) with
    | error x =>
     rw [hu] at h2
     exact .inr ⟨x,rfl,h2⟩
    | ok z =>
     obtain ⟨u,p3⟩:=z
     simp only [hu] at h2 r4 ⊢
     obtain ⟨rfl,rfl⟩:=r3 u p3 hu
     cases hx:Q0V b 2 p3 (num b 10 2) with
     | error x =>
      rw [hx] at h2
      exact .inr ⟨x,rfl,h2⟩
     | ok z =>
      obtain ⟨x,p4⟩:=z
      simp only [hx] at h2 ⊢
      obtain ⟨rfl,rfl⟩:=r4 x p4 hx
      exact .inl ⟨_,p4,rfl,h2,a1,c1,a2,c2,a3,c3,a4,c4,rfl,o1,o2,o3,o4,ap⟩
def Q8J (r:Except Int Msg):Int:=match r with
 | .ok _=>0
 | .error x=>x
def Q0R (r:Except Int Msg):Msg:=match r with
 | .ok m=>m
 | .error _=>QiM
def QbQ (N:Nat) (w:World) (r:Except Int Msg) (e:Ending) (w':World):Prop :=
 ∃ v,e=.returned (.tuple #[v,.int .i64 (Q8J r)])∧MsgIs w' N v (Q0R r)∧Below N w w'
theorem Q2W {N:Nat} {w w':World} (x:Int) (h:Below N w w'):QbQ N w (.error x) (.returned (.tuple #[Q33,.int .i64 x])) w':=⟨Q33,rfl,QiN _ _,h⟩
theorem Q3a {B:Nat} {a w:World} {P:Nat} (h:Below B a w) (hP:B≤P) (v0 v1 v2 v3 v4 v5:Value) :
  Below B a ((((((w.setCell ⟨P,0,none⟩ v0).setCell ⟨P,1,none⟩ v1).setCell ⟨P,2,none⟩ v2).setCell ⟨P,3,none⟩ v3).setCell ⟨P,4,none⟩ v4).setCell ⟨P,5,none⟩ v5) :=
 (((((h.setCell hP _).setCell hP _).setCell hP _).setCell hP _).setCell hP _).setCell hP _
theorem Q4o {w:World} {P:Nat} {x0 x1 x2 x3 x4 x5:Value} {t:TypeId} (h:w.heap[P]? = some (.cells #[x0,x1,x2,x3,x4,x5] t (0,0))) (v0 v1 v2 v3 v4 v5:Value) (o:Obj) :
  (((((((w.setCell ⟨P,0,none⟩ v0).setCell ⟨P,1,none⟩ v1).setCell ⟨P,2,none⟩ v2).setCell ⟨P,3,none⟩ v3).setCell ⟨P,4,none⟩ v4).setCell ⟨P,5,none⟩ v5).alloc o).heap[P]? = some (.cells #[v0,v1,v2,v3,v4,v5] t (0,0)):=by
 have h1:=Q4T h v0 v1 v2 v3 v4 v5
 rw [Below.heap_alloc _ _ _ (Qb h1)]
 exact h1
theorem Q3r {B:Nat} {a w:World} {P:Nat} (h:Below B a w) (hP:B≤P) (hB:B≤w.heap.size) (v0 v1 v2 v3 v4 v5:Value) (o:Obj) :
  Below B a (((((((w.setCell ⟨P,0,none⟩ v0).setCell ⟨P,1,none⟩ v1).setCell ⟨P,2,none⟩ v2).setCell ⟨P,3,none⟩ v3).setCell ⟨P,4,none⟩ v4).setCell ⟨P,5,none⟩ v5).alloc o) :=
 Below.alloc (Q3a h hP _ _ _ _ _ _) (by simp only [Q0l]; exact hB) _
set_option maxHeartbeats 1000000 in
theorem Q6V (b:ByteArray) (w:World) (hm:b.size≤maxLen) :
  Calls Tryz.prog 41 #[.string b] w fun e w'=>QbQ w.heap.size w (Q0X b) e w':=by
 unfold maxLen at hm
 generalize hN:w.heap.size=N
 by_cases c:65535 < b.size
 ·have HP:Hid (Q0X b=.error 1):=by show _=_; unfold Q0X; rw [if_pos c]
  go_enter Tryz.func41,Tryz.ntmps41
  go_wp2_with fail
  have hA:(w.alloc Q25).heap[N]? = some Q25:=by rw [←hN]; exact heap_alloc_new _ _
  unfold Q25 at hA
  obtain ⟨⟨g0,g1,g2,g3,g4,g5⟩,_⟩:=Qh hA
  refine bodyPost_ret (v:=.tuple #[Q33,.int .i64 1]) (by simp [results,Tryz.results41,go_sem,Q33,g0,g1,g2,g3,g4,g5]) rfl ?_
  rw [Q6 HP]
  exact Q2W 1 ((Below.refl _ _).alloc (by omega) _)
 ·have hb:b.size≤65535:=by omega
  have HP:=Qa (Qh1 b hb)
  go_enter Tryz.func41,Tryz.ntmps41
  go_wp2_with fail
  have hA:=(Q2f w Q25 (rdr b 0 0)).1
  have hB:=(Q2f w Q25 (rdr b 0 0)).2
  have hG:Below N w ((w.alloc Q25).alloc (rdr b 0 0)):=((Below.refl _ _).alloc (by omega) _).alloc (by simp; omega) _
  rw [hN] at hA hB
  unfold Q25 rdr at hA hB hG
  generalize (w.alloc (.cells #[.int .i64 0,.int .i64 0,.slice none 0 0,.slice none 0 0,.slice none 0 0,.slice none 0 0] 32 (0,0))).alloc (.cells #[.string b,.int .i64 0,.int .i64 0] 122 (0,0))=w0 at *
  have HA:=Qa hA
  have hsz:N+1 < w0.heap.size:=Qb hB
  have hB':At w0 (N+1) b (.ok 0):=⟨Nat.zero_le _,hB⟩
  clear hA hB hm c
  refine (Qc5 (N+1) b _ hb hB').mono ?_
  rintro e w1 ⟨hg1,i,f,a1,m1,c1,a2,m2,c2,a3,m3,c3,a4,m4,c4,rfl,hcase⟩
  have hb1:Below N w w1:=Q1k hG hg1 (by omega) (by omega)
  have hA1:=Q1S hg1 (Q6 HA) (by omega)
  obtain ⟨⟨x0,x1,x2,x3,x4,x5⟩,y0,y1,y2,y3,y4,y5⟩:=Qh hA1
  have hl1:=Qb hA1
  have hs1:N+1 < w1.heap.size:=by have:=hg1.size; omega
  have HA1:=Qa hA1
  clear hA1 HA hG hB'
  rcases hcase with ⟨m,p,hP,hAt,hM⟩ | ⟨x,hP,hAt⟩
  ·obtain ⟨r0,r1,r2,r3,r4,r5⟩:=Q0K hAt.2
   by_cases hp:p=b.size
   ·have HPx:Hid (Q0X b=.ok m):=by show _=_; rw [Q6 HP,hP]; simp only; rw [if_neg (by simp [hp])]
    have hpn:(((p:Int)) != (b.size:Int))=false:=by simp only [bne_eq_false_iff_eq]; omega
    have HM:=Qa hM
    clear hP hAt HP hp hM
    go_wp2_with fail
    have hf:=Q4o (Q6 HA1) (.int .i64 i) (.int .i64 f) (.slice a1 m1 c1) (.slice a2 m2 c2) (.slice a3 m3 c3) (.slice a4 m4 c4) (.cells #[.int .i64 i,.int .i64 f,.slice a1 m1 c1,.slice a2 m2 c2,.slice a3 m3 c3,.slice a4 m4 c4] 32)
    obtain ⟨⟨g0,g1,g2,g3,g4,g5⟩,_⟩:=Qh hf
    refine bodyPost_ret (v:=.tuple #[.agg #[.int .i64 i,.int .i64 f,.slice a1 m1 c1,.slice a2 m2 c2,.slice a3 m3 c3,.slice a4 m4 c4],.int .i64 0]) (by simp [results,Tryz.results41,go_sem,g0,g1,g2,g3,g4,g5]) rfl ?_
    rw [Q6 HPx]
    refine ⟨_,rfl,?_,Q3r hb1 (Nat.le_refl _) (by omega) _ _ _ _ _ _ _⟩
    have keep:∀ {e:TypeId} {size:Nat} {v:Value} {n:Nat} {xs:List Value},w1.ownsRow w0.heap.size e size v n xs→(((((((w1.setCell ⟨N,0,none⟩ (.int .i64 i)).setCell ⟨N,1,none⟩ (.int .i64 f)).setCell ⟨N,2,none⟩ (.slice a1 m1 c1)).setCell ⟨N,3,none⟩ (.slice a2 m2 c2)).setCell ⟨N,4,none⟩ (.slice a3 m3 c3)).setCell ⟨N,5,none⟩ (.slice a4 m4 c4)).alloc (.cells #[.int .i64 i,.int .i64 f,.slice a1 m1 c1,.slice a2 m2 c2,.slice a3 m3 c3,.slice a4 m4 c4] 32)).ownsRow N e size v n xs:=by
     intro e size v n xs h
     refine Q1r (N:=w0.heap.size) ?_ (by omega)
     exact (Q0p (Q0p (Q0p (Q0p (Q0p (Q0p h (Ql _ N _ _) (by omega)) (Ql _ N _ _) (by omega)) (Ql _ N _ _) (by omega)) (Ql _ N _ _) (by omega)) (Ql _ N _ _) (by omega)) (Ql _ N _ _) (by omega)).alloc _
    obtain ⟨k1,k2,k3,k4,k5,k6,k7,k8,kv,o1,o2,o3,o4,ap⟩:=Q6 HM
    exact ⟨k1,k2,k3,k4,k5,k6,k7,k8,kv,keep o1,keep o2,keep o3,keep o4,ap⟩
   ·have HPx:Hid (Q0X b=.error 6):=by show _=_; rw [Q6 HP,hP]; simp only; rw [if_pos hp]
    have hpn:(((p:Int)) != (b.size:Int))=true:=by rw [bne_iff_ne]; omega
    clear hP hAt HP hp hM
    go_wp2_with fail
    have hf:=Q4o (Q6 HA1) (.int .i64 0) (.int .i64 0) (.slice none 0 0) (.slice none 0 0) (.slice none 0 0) (.slice none 0 0) (.cells #[.int .i64 i,.int .i64 f,.slice a1 m1 c1,.slice a2 m2 c2,.slice a3 m3 c3,.slice a4 m4 c4] 32)
    obtain ⟨⟨g0,g1,g2,g3,g4,g5⟩,_⟩:=Qh hf
    refine bodyPost_ret (v:=.tuple #[Q33,.int .i64 6]) (by simp [results,Tryz.results41,go_sem,Q33,g0,g1,g2,g3,g4,g5]) rfl ?_
    rw [Q6 HPx]
    exact Q2W 6 (Q3r hb1 (Nat.le_refl _) (by omega) _ _ _ _ _ _ _)
  ·obtain ⟨af,az⟩:=hAt.fail
   have hx:=hAt.failNe
   have hx0:(x != 0)=true:=by rw [bne_iff_ne]; exact hx
   have af':w1.cell? ⟨N+1,2,none⟩=some (.int .i64 x):=af
   have HPx:Hid (Q0X b=.error x):=by show _=_; rw [Q6 HP,hP]
   clear af hP hAt HP hx
   go_wp2_with fail
   go_region_held3 (fun w'=>w'.cell? ⟨N+1,2,none⟩=some (.int .i64 x)) (go_keep) (fail)
   go_wp2_with fail
   have hf:=Q4o (Q6 HA1) (.int .i64 0) (.int .i64 0) (.slice none 0 0) (.slice none 0 0) (.slice none 0 0) (.slice none 0 0) (.cells #[.int .i64 i,.int .i64 f,.slice a1 m1 c1,.slice a2 m2 c2,.slice a3 m3 c3,.slice a4 m4 c4] 32)
   obtain ⟨⟨g0,g1,g2,g3,g4,g5⟩,_⟩:=Qh hf
   refine bodyPost_ret (v:=.tuple #[Q33,.int .i64 x]) (by simp [results,Tryz.results41,go_sem,Q33,g0,g1,g2,g3,g4,g5]) rfl ?_
   rw [Q6 HPx]
   exact Q2W x (Q3r hb1 (Nat.le_refl _) (by omega) _ _ _ _ _ _ _).drew
theorem MsgIs.keep {w w':World} {N:Nat} {v:Value} {m:Msg} (h:MsgIs w N v m) (hk:∀ {e:TypeId} {size:Nat} {v:Value} {n:Nat} {xs:List Value},w.ownsRow N e size v n xs→w'.ownsRow N e size v n xs):MsgIs w' N v m:=by
 obtain ⟨k1,k2,k3,k4,k5,k6,k7,k8,kv,o1,o2,o3,o4,ap⟩:=h
 exact ⟨k1,k2,k3,k4,k5,k6,k7,k8,kv,hk o1,hk o2,hk o3,hk o4,ap⟩
theorem MsgIs.mono {w:World} {N N':Nat} {v:Value} {m:Msg} (h:MsgIs w N v m) (hN:N'≤N):MsgIs w N' v m:=by
 obtain ⟨k1,k2,k3,k4,k5,k6,k7,k8,kv,o1,o2,o3,o4,ap⟩:=h
 exact ⟨k1,k2,k3,k4,k5,k6,k7,k8,kv,Q1r o1 hN,Q1r o2 hN,Q1r o3 hN,Q1r o4 hN,ap⟩
theorem MsgIs.set {w:World} {N:Nat} {v:Value} {m:Msg} (h:MsgIs w N v m) (P o:Nat) (u:Value) (hP:P < N):MsgIs (w.setCell ⟨P,o,none⟩ u) N v m :=
 h.keep (fun hr=>Q0p hr (Ql _ _ _ _) hP)
set_option maxHeartbeats 1000000 in
theorem Qb6 (b:ByteArray) (w:World) (hm:b.size≤maxLen) :
  Calls Tryz.prog 19 #[.string b] w fun e w'=>QbQ w.heap.size w (Q0X b) e w':=by
 have hc:=fun w'=>Q6V b w' hm
 generalize Q0X b=r at hc ⊢
 have Hc:=Qa hc
 clear hc
 generalize hN:w.heap.size=N
 go_enter Tryz.func19,Tryz.ntmps19
 go_wp2_with fail
 have hA:(w.alloc Q25).heap[N]? = some Q25:=by rw [←hN]; exact heap_alloc_new _ _
 have hG:Below N w (w.alloc Q25):=(Below.refl _ _).alloc (by omega) _
 have hS:(w.alloc Q25).heap.size=N+1:=by simp [hN]
 unfold Q25 at hA hG hS
 generalize w.alloc (.cells #[.int .i64 0,.int .i64 0,.slice none 0 0,.slice none 0 0,.slice none 0 0,.slice none 0 0] 32 (0,0))=w0 at *
 refine (Q6 Hc w0).mono ?_
 rintro e w1 ⟨v,rfl,hM,hb1⟩
 rw [hS] at hM hb1
 have hA1:=(hb1.block N (by omega)).trans hA
 have hb2:Below N w w1:=hG.trans (hb1.mono (by omega))
 have hM':=hM
 obtain ⟨a1,c1,a2,c2,a3,c3,a4,c4,rfl,_⟩:=hM'
 obtain ⟨⟨x0,x1,x2,x3,x4,x5⟩,y0,y1,y2,y3,y4,y5⟩:=Qh hA1
 have hl1:=Qb hA1
 have HA1:=Qa hA1
 have HM:=Qa hM
 clear hA hA1 hM hS hG hb1 Hc
 go_wp2_with fail
 have hf:=Q4T (Q6 HA1) (.int .i64 (Q0R r).id) (.int .i64 (Q0R r).flags) (.slice a1 (Q0R r).q.length c1) (.slice a2 (Q0R r).a.length c2) (.slice a3 (Q0R r).u.length c3) (.slice a4 (Q0R r).x.length c4)
 obtain ⟨⟨g0,g1,g2,g3,g4,g5⟩,_⟩:=Qh hf
 refine bodyPost_ret (v:=.tuple #[.agg #[.int .i64 (Q0R r).id,.int .i64 (Q0R r).flags,.slice a1 (Q0R r).q.length c1,.slice a2 (Q0R r).a.length c2,.slice a3 (Q0R r).u.length c3,.slice a4 (Q0R r).x.length c4],.int .i64 (Q8J r)]) (by simp [results,Tryz.results19,go_sem,g0,g1,g2,g3,g4,g5]) rfl ?_
 refine ⟨_,rfl,?_,Q3a hb2 (Nat.le_refl _) _ _ _ _ _ _⟩
 exact (((((((Q6 HM).set N 0 _ (by omega)).set N 1 _ (by omega)).set N 2 _ (by omega)).set N 3 _ (by omega)).set N 4 _ (by omega)).set N 5 _ (by omega)).mono (by omega)
end Go.Proofs.YtdhobdmhnocbgabGreatDoor
