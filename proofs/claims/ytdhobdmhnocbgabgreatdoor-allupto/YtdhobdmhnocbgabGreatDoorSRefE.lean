import Derived.Test.YtdhobdmhnocbgabGreatDoorSParseX
import Derived.Test.YtdhobdmhnocbgabGreatDoorSRefD
namespace Go.Proofs.YtdhobdmhnocbgabGreatDoor.Zr
def Q4L (m:Msg) (i:Nat) (l:List Rc):Msg :=
 if i=0 then { m with a:=l } else if i=1 then { m with u:=l } else { m with x:=l }
def Q2I (b:ByteArray) (m0:Msg) (p1:Nat):Nat→Except Int (Msg × Nat)
 | 0=>.ok (m0,p1)
 | i+1=>match Q2I b m0 p1 i with
  | .error e=>.error e
  | .ok (m,p)=>match Q0V b i p (num b (2 * (3+i)) 2) with
   | .error e=>.error e
   | .ok (l,p')=>.ok (Q4L m i l,p')
def Qc6 (b:ByteArray) (q:List Qs):Msg:=⟨num b 0 2,num b 2 2,q,[],[],[]⟩
theorem Q5A (b:ByteArray) (h:b.size≤65535) (h12:12≤b.size):Q0X b=match Q1N b 12 (num b 4 2) with
  | .error e=>.error e
  | .ok (q,p1)=>match Q2I b (Qc6 b q) p1 3 with
   | .error e=>.error e
   | .ok (m,p)=>if p≠b.size then .error 6 else .ok m:=by
 unfold Q0X
 rw [if_neg (by omega),if_neg (by omega)]
 cases Q1N b 12 (num b 4 2) with
 | error e=>rfl
 | ok z =>
  obtain ⟨q,p1⟩:=z
  simp only [Q2I]
  have e0:2 * (3+0)=6:=rfl
  have e1:2 * (3+1)=8:=rfl
  have e2:2 * (3+2)=10:=rfl
  rw [e0]
  cases Q0V b 0 p1 (num b 6 2) with
  | error e=>rfl
  | ok z =>
   obtain ⟨a,p2⟩:=z
   simp only
   rw [e1]
   cases Q0V b 1 p2 (num b 8 2) with
   | error e=>rfl
   | ok z =>
    obtain ⟨u,p3⟩:=z
    simp only
    rw [e2]
    cases Q0V b 2 p3 (num b 10 2) with
    | error e=>rfl
    | ok z=>rfl
theorem Qdi (b:ByteArray) (h:b.size≤65535) (h12:12≤b.size) (j:Nat) (hj:j≤num b 4 2) (x:Int) (he:Q1N b 12 j=.error x):Q0X b=.error x:=by
 rw [Q5A b h h12,Qdo b 12 j x he _ hj]
theorem Qdn (b:ByteArray) (m0:Msg) (p1 j:Nat) (x:Int) (h:Q2I b m0 p1 j=.error x):∀ i,j≤i→Q2I b m0 p1 i=.error x:=by
 intro i hi
 obtain ⟨d,rfl⟩:∃ d,i=j+d:=⟨i - j,by omega⟩
 clear hi
 induction d with
 | zero=>exact h
 | succ d ih=>rw [←Nat.add_assoc,Q2I,ih]
theorem Q8T (b:ByteArray) (h:b.size≤65535) (h12:12≤b.size) (q:List Qs) (p1:Nat) (hq:Q1N b 12 (num b 4 2)=.ok (q,p1)) (i:Nat) (hi:i < 3) (m:Msg) (p:Nat) (hp:Q2I b (Qc6 b q) p1 i=.ok (m,p))
  (j:Nat) (hj:j≤num b (2 * (3+i)) 2) (x:Int) (he:Q0V b i p j=.error x):Q0X b=.error x:=by
 have h1:Q2I b (Qc6 b q) p1 (i+1)=.error x:=by
  rw [Q2I,hp]; simp only; rw [Qdu b i p j x he _ hj]
 rw [Q5A b h h12,hq]
 simp only
 rw [Qdn b _ p1 (i+1) x h1 3 (by omega)]
theorem Qh2 (b:ByteArray) (h:b.size≤65535) (h12:12≤b.size) (q:List Qs) (p1:Nat) (hq:Q1N b 12 (num b 4 2)=.ok (q,p1)) (m:Msg) (p:Nat) (hp:Q2I b (Qc6 b q) p1 3=.ok (m,p)) :
  Q0X b=if p≠b.size then .error 6 else .ok m:=by
 rw [Q5A b h h12,hq]
 simp only
 rw [hp]
theorem Qca (b:ByteArray) (m0:Msg) (p1 i:Nat) (m:Msg) (p:Nat) (hp:Q2I b m0 p1 i=.ok (m,p)) (l:List Rc) (p':Nat) (hl:Q0V b i p (num b (2 * (3+i)) 2)=.ok (l,p')):Q2I b m0 p1 (i+1)=.ok (Q4L m i l,p'):=by
 rw [Q2I,hp]; simp only; rw [hl]
end Go.Proofs.YtdhobdmhnocbgabGreatDoor.Zr
namespace Go.Proofs.YtdhobdmhnocbgabGreatDoor
open Go.RowKit Zr
def Q8E (v:Value) (M:Nat):Prop:=∀ g,v.ownBlock=some g→g < M
theorem Q84 {w:World} {N:Nat} {e:TypeId} {size:Nat} {v:Value} {n:Nat} {xs:List Value} (h:w.ownsRow N e size v n xs):Q8E v w.heap.size:=fun g hg=>(h.lt g hg).2
theorem Apart.symm {u v:Value} (h:Apart u v):Apart v u:=fun g hv hu=>h g hu hv
def Q3X (v:Value) (M:Nat):Prop:=∀ i f s1 s2 s3 s4,v=.agg #[i,f,s1,s2,s3,s4]→Q8E s1 M∧Q8E s2 M∧Q8E s3 M∧Q8E s4 M
theorem MsgIs.under {w:World} {N:Nat} {v:Value} {m:Msg} (h:MsgIs w N v m):Q3X v w.heap.size:=by
 obtain ⟨a1,c1,a2,c2,a3,c3,a4,c4,rfl,o1,o2,o3,o4,_⟩:=h
 intro i f s1 s2 s3 s4 hv
 simp only [Value.agg.injEq,Array.mk.injEq,List.cons.injEq,and_true] at hv
 obtain ⟨_,_,rfl,rfl,rfl,rfl⟩:=hv
 exact ⟨Q84 o1,Q84 o2,Q84 o3,Q84 o4⟩
theorem MsgIs.grown {w w':World} {N M:Nat} {v:Value} {m:Msg} {row:Option Nat} (h:MsgIs w N v m) (hu:Q3X v M) (hg:w.grownBy w' row) (hr:∀ g,row=some g→M≤g):MsgIs w' N v m:=by
 obtain ⟨a1,c1,a2,c2,a3,c3,a4,c4,hv,o1,o2,o3,o4,ap⟩:=h
 obtain ⟨u1,u2,u3,u4⟩:=hu _ _ _ _ _ _ hv
 have ne:∀ {s:Value},Q8E s M→s.ownBlock=none∨s.ownBlock≠row:=by
  intro s hs
  cases hc:s.ownBlock with
  | none=>exact .inl rfl
  | some g =>
   refine .inr (fun e=>?_)
   have h1:=hs g hc
   have h2:=hr g e.symm
   omega
 exact ⟨a1,c1,a2,c2,a3,c3,a4,c4,hv,o1.kept hg (ne u1),o2.kept hg (ne u2),o3.kept hg (ne u3),o4.kept hg (ne u4),ap⟩
theorem MsgIs.below {w w':World} {N:Nat} {v:Value} {m:Msg} (h:MsgIs w N v m) (hb:Below w.heap.size w w'):MsgIs w' N v m :=
 h.grown h.under (Q1l (row:=none) hb) (fun g hg=>by cases hg)
theorem Q2U {w:World} {M:Nat} {e:TypeId} {size:Nat} {u v:Value} {n:Nat} {xs:List Value} (hu:Q8E u M) (hv:w.ownsRow M e size v n xs):Apart u v:=by
 intro g h1 h2
 have:=hu g h1
 have:=(hv.lt g h2).1
 omega
theorem MsgIs.put0 {w:World} {N M:Nat} {i f s1 s2 s3 s4:Value} {m:Msg} {a:Option Addr} {l:List Rc} {c:Nat} (h:MsgIs w N (.agg #[i,f,s1,s2,s3,s4]) m) (hu:Q3X (.agg #[i,f,s1,s2,s3,s4]) M) (hN:N≤M)
  (ho:w.ownsRow M 61 5 (.slice a l.length c) l.length (Q0e l)):MsgIs w N (.agg #[i,f,s1,.slice a l.length c,s3,s4]) (Q4L m 0 l):=by
 obtain ⟨a1,c1,a2,c2,a3,c3,a4,c4,hv,o1,o2,o3,o4,p12,p13,p14,p23,p24,p34⟩:=h
 obtain ⟨u1,u2,u3,u4⟩:=hu _ _ _ _ _ _ rfl
 simp only [Value.agg.injEq,Array.mk.injEq,List.cons.injEq,and_true] at hv
 obtain ⟨rfl,rfl,rfl,rfl,rfl,rfl⟩:=hv
 exact ⟨a1,c1,a,c,a3,c3,a4,c4,rfl,o1,Q1r ho hN,o3,o4,Q2U u1 ho,p13,p14,(Q2U u3 ho).symm,(Q2U u4 ho).symm,p34⟩
theorem MsgIs.put1 {w:World} {N M:Nat} {i f s1 s2 s3 s4:Value} {m:Msg} {a:Option Addr} {l:List Rc} {c:Nat} (h:MsgIs w N (.agg #[i,f,s1,s2,s3,s4]) m) (hu:Q3X (.agg #[i,f,s1,s2,s3,s4]) M) (hN:N≤M)
  (ho:w.ownsRow M 61 5 (.slice a l.length c) l.length (Q0e l)):MsgIs w N (.agg #[i,f,s1,s2,.slice a l.length c,s4]) (Q4L m 1 l):=by
 obtain ⟨a1,c1,a2,c2,a3,c3,a4,c4,hv,o1,o2,o3,o4,p12,p13,p14,p23,p24,p34⟩:=h
 obtain ⟨u1,u2,u3,u4⟩:=hu _ _ _ _ _ _ rfl
 simp only [Value.agg.injEq,Array.mk.injEq,List.cons.injEq,and_true] at hv
 obtain ⟨rfl,rfl,rfl,rfl,rfl,rfl⟩:=hv
 exact ⟨a1,c1,a2,c2,a,c,a4,c4,rfl,o1,o2,Q1r ho hN,o4,p12,Q2U u1 ho,p14,Q2U u2 ho,p24,(Q2U u4 ho).symm⟩
theorem MsgIs.put2 {w:World} {N M:Nat} {i f s1 s2 s3 s4:Value} {m:Msg} {a:Option Addr} {l:List Rc} {c:Nat} (h:MsgIs w N (.agg #[i,f,s1,s2,s3,s4]) m) (hu:Q3X (.agg #[i,f,s1,s2,s3,s4]) M) (hN:N≤M)
  (ho:w.ownsRow M 61 5 (.slice a l.length c) l.length (Q0e l)):MsgIs w N (.agg #[i,f,s1,s2,s3,.slice a l.length c]) (Q4L m 2 l):=by
 obtain ⟨a1,c1,a2,c2,a3,c3,a4,c4,hv,o1,o2,o3,o4,p12,p13,p14,p23,p24,p34⟩:=h
 obtain ⟨u1,u2,u3,u4⟩:=hu _ _ _ _ _ _ rfl
 simp only [Value.agg.injEq,Array.mk.injEq,List.cons.injEq,and_true] at hv
 obtain ⟨rfl,rfl,rfl,rfl,rfl,rfl⟩:=hv
 exact ⟨a1,c1,a2,c2,a3,c3,a,c,rfl,o1,o2,o3,Q1r ho hN,p12,p13,Q2U u1 ho,p23,Q2U u2 ho,Q2U u3 ho⟩
theorem Qkp {w:World} {N:Nat} (b:ByteArray) (q:List Qs) {a:Option Addr} {c:Nat} (h:w.ownsRow N 91 3 (.slice a q.length c) q.length (Q1M q)) :
  MsgIs w N (.agg #[.int .i64 (num b 0 2),.int .i64 (num b 2 2),.slice a q.length c,.slice none 0 0,.slice none 0 0,.slice none 0 0]) (Qc6 b q) :=
 ⟨a,c,none,0,none,0,none,0,rfl,h,World.ownsRow_nil _ _ _ _,World.ownsRow_nil _ _ _ _,World.ownsRow_nil _ _ _ _,
  fun g _ h2=>by simp [Value.ownBlock] at h2,fun g _ h2=>by simp [Value.ownBlock] at h2,fun g _ h2=>by simp [Value.ownBlock] at h2,fun g _ h2=>by simp [Value.ownBlock] at h2,fun g _ h2=>by simp [Value.ownBlock] at h2,fun g _ h2=>by simp [Value.ownBlock] at h2⟩
end Go.Proofs.YtdhobdmhnocbgabGreatDoor
namespace Go.Proofs.YtdhobdmhnocbgabGreatDoor
open Go.RowKit Zr
structure Around (w:World) (N:Nat) (wr:World) (cs:Array Value):Prop where
 res:wr.heap[N]? = some Q25
 box:wr.heap[N+1]? = some (.cells cs 32 (0,0))
 below:Below N w wr
theorem Around.step {w wr wr':World} {N:Nat} {cs:Array Value} (h:Around w N wr cs) (hb:Below wr.heap.size wr wr'):Around w N wr' cs :=
 ⟨(hb.block N (Qb h.res)).trans h.res,(hb.block (N+1) (Qb h.box)).trans h.box,h.below.trans (hb.mono (by have:=Qb h.box; omega))⟩
theorem Around.alloc {w wr:World} {N:Nat} {cs:Array Value} (h:Around w N wr cs) (o:Obj):Around w N (wr.alloc o) cs :=
 h.step ((Below.refl _ _).alloc (Nat.le_refl _) _)
theorem Around.grown {w wr wr':World} {N:Nat} {cs:Array Value} {row:Option Nat} (h:Around w N wr cs) (hg:wr.grownBy wr' row) (hr:∀ k,row=some k→N+2≤k):Around w N wr' cs:=by
 have h1:=Qb h.box
 refine ⟨(hg.block N (Qb h.res) (fun e=>by have:=hr N e.symm; omega)).trans h.res,(hg.block (N+1) h1 (fun e=>by have:=hr _ e.symm; omega)).trans h.box,?_⟩
 exact Below.grown h.below hg (by omega) (fun k hk=>by have:=hr k hk; omega)
theorem Around.set {w wr:World} {N:Nat} {cs:Array Value} (h:Around w N wr cs) (j:Nat) (v:Value):Around w N (wr.setCell ⟨N+1,j,none⟩ v) (cs.setIfInBounds j v) :=
 ⟨(Qf (by omega) _ _).trans h.res,Qo h.box _ _,h.below.setCell (show N≤N+1 by omega) _⟩
theorem Qk {w w':World} {N:Nat} {e:TypeId} {size:Nat} {v:Value} {n:Nat} {xs:List Value} (h:w.ownsRow N e size v n xs) (hb:Below w.heap.size w w'):w'.ownsRow N e size v n xs:=by
 refine h.kept (Q1l (row:=none) hb) ?_
 cases v.ownBlock with
 | none=>exact .inl rfl
 | some g=>exact .inr (by simp)
set_option maxRecDepth 100000 in
set_option maxHeartbeats 4000000 in
theorem Q7V (b:ByteArray) (w:World) (hm:b.size≤maxLen) :
  Calls Tryz.prog 20 #[.string b] w fun e w'=>QbQ w.heap.size w (Q0X b) e w':=by
 unfold maxLen at hm
 generalize hN:w.heap.size=N
 by_cases c:65535 < b.size
 ·have HP:Hid (Q0X b=.error 1):=by show _=_; unfold Q0X; rw [if_pos c]
  go_enter Tryz.func20,Tryz.ntmps20
  go_wp2_with fail
  have hA:(w.alloc Q25).heap[N]? = some Q25:=by rw [←hN]; exact heap_alloc_new _ _
  unfold Q25 at hA
  obtain ⟨⟨g0,g1,g2,g3,g4,g5⟩,_⟩:=Qh hA
  refine bodyPost_ret (v:=.tuple #[Q33,.int .i64 1]) (by simp [results,Tryz.results20,go_sem,Q33,g0,g1,g2,g3,g4,g5]) rfl ?_
  rw [Q6 HP]
  exact Q2W 1 ((Below.refl _ _).alloc (by omega) _)
 have hb:b.size≤65535:=by omega
 by_cases c12:b.size < 12
 ·have HP:Hid (Q0X b=.error 2):=by show _=_; unfold Q0X; rw [if_neg c,if_pos c12]
  have hA:=(Q2f w Q25 Q25).1
  have hG:Below N w ((w.alloc Q25).alloc Q25):=((Below.refl _ _).alloc (by omega) _).alloc (by simp; omega) _
  rw [hN] at hA
  unfold Q25 at hA hG
  go_enter Tryz.func20,Tryz.ntmps20
  go_wp2_with fail
  obtain ⟨⟨g0,g1,g2,g3,g4,g5⟩,_⟩:=Qh hA
  refine bodyPost_ret (v:=.tuple #[Q33,.int .i64 2]) (by simp [results,Tryz.results20,go_sem,Q33,g0,g1,g2,g3,g4,g5]) rfl ?_
  rw [Q6 HP]
  exact Q2W 2 hG
 have h12:12≤b.size:=by omega
 have hA:=(Q2f w Q25 Q25).1
 have hB:=(Q2f w Q25 Q25).2
 have hG:Below N w ((w.alloc Q25).alloc Q25):=((Below.refl _ _).alloc (by omega) _).alloc (by simp; omega) _
 rw [hN] at hA hB
 have HAr:Around w N ((w.alloc Q25).alloc Q25) #[.int .i64 0,.int .i64 0,.slice none 0 0,.slice none 0 0,.slice none 0 0,.slice none 0 0]:=⟨hA,hB,hG⟩
 unfold Q25 at HAr
 clear hA hB hG c c12
 go_enter Tryz.func20,Tryz.ntmps20
 go_wp2_with fail
 generalize (w.alloc (.cells #[.int .i64 0,.int .i64 0,.slice none 0 0,.slice none 0 0,.slice none 0 0,.slice none 0 0] 32 (0,0))).alloc (.cells #[.int .i64 0,.int .i64 0,.slice none 0 0,.slice none 0 0,.slice none 0 0,.slice none 0 0] 32 (0,0))=w0 at *
 refine (Q4s b 0 _ hb (by omega) (by omega) h12).mono ?_
 rw [show 2 * (0:Int).toNat=0 from rfl]
 rintro e w1 ⟨rfl,rfl⟩
 obtain ⟨⟨x0,x1,x2,x3,x4,x5⟩,y0,y1,y2,y3,y4,y5⟩:=Qh HAr.box
 have hAr1:=HAr.set 0 (.int .i64 (num b 0 2))
 have hl1:=Qb HAr.box
 clear HAr
 go_wp2_with fail
 generalize w1.setCell ⟨N+1,0,none⟩ (.int .i64 (num b 0 2))=w2 at *
 clear x0 x1 x2 x3 x4 x5 y0 y1 y2 y3 y4 y5 hl1 w1
 refine (Q4s b 1 _ hb (by omega) (by omega) h12).mono ?_
 rw [show 2 * (1:Int).toNat=2 from rfl]
 rintro e w1 ⟨rfl,rfl⟩
 have hAr1':Around w N w1 #[.int .i64 (num b 0 2),.int .i64 0,.slice none 0 0,.slice none 0 0,.slice none 0 0,.slice none 0 0]:=hAr1
 obtain ⟨⟨x0,x1,x2,x3,x4,x5⟩,y0,y1,y2,y3,y4,y5⟩:=Qh hAr1'.box
 have hAr2:=hAr1'.set 1 (.int .i64 (num b 2 2))
 have hl1:=Qb hAr1'.box
 clear hAr1 hAr1'
 go_wp2_with fail
 generalize w1.setCell ⟨N+1,1,none⟩ (.int .i64 (num b 2 2))=w2 at *
 clear x0 x1 x2 x3 x4 x5 y0 y1 y2 y3 y4 y5 hl1 w1
 refine (Q4s b 2 _ hb (by omega) (by omega) h12).mono ?_
 rw [show 2 * (2:Int).toNat=4 from rfl]
 rintro e w1 ⟨rfl,rfl⟩
 have hAr3:Around w N w1 #[.int .i64 (num b 0 2),.int .i64 (num b 2 2),.slice none 0 0,.slice none 0 0,.slice none 0 0,.slice none 0 0]:=hAr2
 have HAr:=Qa hAr3
 clear hAr2 hAr3
 go_wp2_with fail
 have hn1:=Q0n b 4
 generalize hn:num b 4 2=n1 at *
 have HN:=Qa hn
 clear hn
 obtain ⟨i0,hi,hz0,hz1,hz2⟩:=info_parts Tryz.info91
 have Hi:=Qa hi
 have Hz0:=Qa hz0
 have Hz1:=Qa hz1
 have Hz2:=Qa hz2
 clear hi hz0 hz1 hz2
 go_loopg [5,8] (n1+1) (fun g at' k w'=>∃ (j:Nat) (l:List Qs) (p:Nat) (a:Option Addr) (c:Nat),k=.int .i64 j∧at'=.int .i64 p∧j≤n1∧p≤b.size∧g=n1+1 - j∧l.length=j∧Hid (Q1N b 12 j=.ok (l,p)) ∧
  Hid (Around w N w' #[.int .i64 (num b 0 2),.int .i64 (num b 2 2),.slice a j c,.slice none 0 0,.slice none 0 0,.slice none 0 0])∧Hid (w'.ownsRow (N+2) 91 3 (.slice a j c) j (Q1M l)))
 case atStart=>exact ⟨0,[],12,none,0,rfl,rfl,Nat.zero_le _,h12,by omega,rfl,rfl,HAr,World.ownsRow_nil _ _ _ _⟩
 case round =>
  obtain ⟨j,l,p,a,c,rfl,rfl,hj,hp,hg,hlen,hqs,hAr,hown⟩:=hrel
  by_cases cj:j < n1
  ·cases hq:Q0j b p with
   | error x =>
    have hnx:Q1N b 12 (j+1)=.error x:=by rw [Q1N,Q6 hqs]; simp only; rw [hq]
    have HP:=Qa (Qdi b hb h12 (j+1) (by rw [Q6 HN]; omega) x hnx)
    have Hq:=Qa hq
    clear hnx hq
    go_wp2_with fail
    have hc:=Q5P b p wr hb (by omega) (by omega)
    rw [Int.toNat_natCast,Q6 Hq] at hc
    refine hc.mono ?_
    clear hc
    rintro e w1 ⟨⟨hx0,rfl⟩,hb1⟩
    have hx1:(x != 0)=true:=by rw [bne_iff_ne]; exact hx0
    have hAr1:=(Q6 hAr).step hb1
    have hres:w1.heap[N]? = some (.cells #[.int .i64 0,.int .i64 0,.slice none 0 0,.slice none 0 0,.slice none 0 0,.slice none 0 0] 32 (0,0)):=hAr1.res
    obtain ⟨⟨x0,x1,x2,x3,x4,x5⟩,y0,y1,y2,y3,y4,y5⟩:=Qh hres
    have hl1:=Qb hres
    have HAr1:=Qa hAr1
    have Hres:=Qa hres
    clear hAr1 hx0 hb1 hAr hown hres
    go_wp2_with fail
    have hf:=Q4o (Q6 Hres) (.int .i64 0) (.int .i64 0) (.slice none 0 0) (.slice none 0 0) (.slice none 0 0) (.slice none 0 0) (.cells #[.string ⟨#[]⟩,.int .i64 0,.int .i64 0] 91)
    obtain ⟨⟨g0,g1,g2,g3,g4,g5⟩,_⟩:=Qh hf
    refine bodyPost_ret (v:=.tuple #[Q33,.int .i64 x]) (by simp [results,Tryz.results20,go_sem,Q33,g0,g1,g2,g3,g4,g5]) rfl ?_
    rw [Q6 HP]
    exact Q2W x (Q3r (Q6 HAr1).below (Nat.le_refl _) (by omega) _ _ _ _ _ _ _)
   | ok z =>
    obtain ⟨q,p'⟩:=z
    have hqb:=Q4I b p q p' hq
    have hnx:Q1N b 12 (j+1)=.ok (l++[q],p'):=by rw [Q1N,Q6 hqs]; simp only; rw [hq]
    have HNX:=Qa hnx
    have Hq:=Qa hq
    clear hnx hq
    go_wp2_with fail
    have hc:=Q5P b p wr hb (by omega) (by omega)
    rw [Int.toNat_natCast,Q6 Hq] at hc
    refine hc.mono ?_
    clear hc
    rintro e w1 ⟨hq1,hb1⟩
    have hq2:e=_:=hq1
    subst hq2
    clear hq1
    have hAr1:=(Q6 hAr).step hb1
    obtain ⟨⟨x0,x1,x2,x3,x4,x5⟩,y0,y1,y2,y3,y4,y5⟩:=Qh hAr1.box
    have hl1:=Qb hAr1.box
    have hO1:=Qa (Qk (Q6 hown) hb1)
    have HAr1:=Qa hAr1
    clear hAr1 hb1 hAr hown
    go_wp2_with (at_builtin; refine wpList_append_lies _ rfl _ _ 30 rfl (N+2) 91 i0 (.agg #[.string ⟨#[]⟩,.int .i64 0,.int .i64 0]) 3 32 Tryz.underlying30 (Q6 Hi) (Q6 Hz0) (Q6 Hz1) (Q6 Hz2) rfl (by decide) (.slice a j c) j (Q1M l) (by rfl) (((Q6 hO1).alloc _).alloc _) ⟨w1.heap.size+1,0,none⟩ 1 1 [.string q.name,.int .i64 q.ty,.int .i64 q.cl] (by rfl) rfl (Q3t _ _ _ _ _ _ (by simp)) (fun x hx=>by simp at hx; rcases hx with rfl | rfl | rfl <;> rfl) (by decide) (by unfold maxLen; omega) (by omega) (by simp; omega) (w1.heap.size+2) (by simp) ?_; intro g cap w3 hown3 hgrow3 hat3 hlt3; have hA3:=(((Q6 HAr1).alloc _).alloc _).grown hgrow3 (fun k hk=>((Q6 hO1).lt k hk).1); obtain ⟨⟨q0,q1,q2,q3,q4,q5⟩,z0,z1,z2,z3,z4,z5⟩:=Qh hA3.box; have hl3:=Qb hA3.box)
    go_roundg (n1+1 - (j+1))
    case measure=>omega
    case rel =>
     refine ⟨j+1,l++[q],p',some ⟨g,0,none⟩,cap,by go_num,rfl,by omega,hqb.2.1,rfl,by simp [hlen],HNX,?_,?_⟩
     ·exact hA3.set 2 _
     ·show World.ownsRow _ _ _ _ _ _ _
      rw [Q6P]
      exact Q0p hown3 (Ql _ _ _ _) (by omega)
  ·have hjn:j=n1:=by omega
   subst hjn
   rw [←Q6 HN] at hqs
   have hM0:MsgIs wr (N+2) (.agg #[.int .i64 (num b 0 2),.int .i64 (num b 2 2),.slice a j c,.slice none 0 0,.slice none 0 0,.slice none 0 0]) (Qc6 b l):=by
    have h:=Q6 hown
    subst hlen
    exact Qkp b l h
   have HM0:=Qa hM0
   clear hM0 hown Hi Hz0 Hz1 Hz2 HAr
   obtain ⟨i1,hi,hz0,hz1,hz2⟩:=info_parts Tryz.info61
   have Hi:=Qa hi
   have Hz0:=Qa hz0
   have Hz1:=Qa hz1
   have Hz2:=Qa hz2
   clear hi hz0 hz1 hz2
   go_wp2_with fail
   go_loopg [5,12] 4 (fun g at' k w'=>∃ (i:Nat) (m:Msg) (q:Nat) (s1 s2 s3 s4:Value),k=.int .i64 i∧at'=.int .i64 q∧i≤3∧q≤b.size∧g=4 - i∧Hid (Q2I b (Qc6 b l) p i=.ok (m,q)) ∧
    Hid (Around w N w' #[.int .i64 m.id,.int .i64 m.flags,s1,s2,s3,s4])∧Hid (MsgIs w' (N+2) (.agg #[.int .i64 m.id,.int .i64 m.flags,s1,s2,s3,s4]) m))
   case atStart=>exact ⟨0,Qc6 b l,p,_,_,_,_,rfl,rfl,by omega,hp,rfl,rfl,hAr,HM0⟩
   case round =>
    obtain ⟨i,m,q,s1,s2,s3,s4,rfl,rfl,hi3,hq,hgk,hpt,hAr2,hM2⟩:=hrel
    by_cases ci:i < 3
    ·have hnn:=Q0n b (2 * (3+i))
     generalize hnc:num b (2 * (3+i)) 2=nc at hnn
     have HNC:=Qa hnc
     clear hnc
     go_wp2_with fail
     have hc:=Q4s b (3+i) wr hb (by omega) (by omega) h12
     rw [show 2 * (3+(i:Int)).toNat=2 * (3+i) from by omega,Q6 HNC] at hc
     refine hc.mono ?_
     clear hc
     rintro e w1 ⟨rfl,rfl⟩
     obtain ⟨M,hM⟩:∃ M,M=w1.heap.size:=⟨_,rfl⟩
     have hMN:N+2≤M:=by have:=Qb (Q6 hAr2).box; omega
     have hU:Q3X (.agg #[.int .i64 m.id,.int .i64 m.flags,s1,s2,s3,s4]) M:=by rw [hM]; exact (Q6 hM2).under
     have HU:=Qa hU
     have HMle:Hid (M≤w1.heap.size):=by show _≤_; omega
     clear hM hU
     go_wp2_with fail
     go_loopg [5,13,14] (nc+1) (fun g at' lv k w'=>∃ (j:Nat) (r:List Rc) (t:Nat) (a:Option Addr) (c:Nat),k=.int .i64 j∧at'=.int .i64 t∧lv=.slice a j c∧j≤nc∧t≤b.size∧g=nc+1 - j∧r.length=j∧Hid (Q0V b i q j=.ok (r,t)) ∧
      Hid (Around w N w' #[.int .i64 m.id,.int .i64 m.flags,s1,s2,s3,s4])∧Hid (MsgIs w' (N+2) (.agg #[.int .i64 m.id,.int .i64 m.flags,s1,s2,s3,s4]) m)∧Hid (M≤w'.heap.size)∧Hid (w'.ownsRow M 61 5 (.slice a j c) j (Q0e r)))
     case atStart=>exact ⟨0,[],q,none,0,rfl,rfl,rfl,Nat.zero_le _,hq,by omega,rfl,rfl,hAr2,hM2,HMle,World.ownsRow_nil _ _ _ _⟩
     case round =>
      obtain ⟨j',r,t,a',c',rfl,rfl,rfl,hj',ht,hg',hlen',hrc,hAr3,hM3,hMle,hown3⟩:=hrel
      by_cases cj:j' < nc
      ·cases hx:Q0U b t with
       | error x =>
        have hnx:Q0V b i q (j'+1)=.error x:=by rw [Q0V,Q6 hrc]; simp only; rw [hx]
        have HP:=Qa (Q8T b hb h12 l p (Q6 hqs) i ci m q (Q6 hpt) (j'+1) (by rw [Q6 HNC]; omega) x hnx)
        have Hx:=Qa hx
        clear hnx hx
        go_wp2_with fail
        have hc:=Q6S b t wr hb (by omega) (by omega)
        rw [Int.toNat_natCast,Q6 Hx] at hc
        refine hc.mono ?_
        clear hc
        rintro e w1 ⟨⟨hx0,rfl⟩,hb1⟩
        have hx1:(x != 0)=true:=by rw [bne_iff_ne]; exact hx0
        have hAr1:=(Q6 hAr3).step hb1
        have hres:w1.heap[N]? = some (.cells #[.int .i64 0,.int .i64 0,.slice none 0 0,.slice none 0 0,.slice none 0 0,.slice none 0 0] 32 (0,0)):=hAr1.res
        obtain ⟨⟨x0,x1,x2,x3,x4,x5⟩,y0,y1,y2,y3,y4,y5⟩:=Qh hres
        have hl1:=Qb hres
        have HAr1:=Qa hAr1
        have Hres:=Qa hres
        clear hAr1 hx0 hb1 hres
        go_wp2_with fail
        have hf:=Q4o (Q6 Hres) (.int .i64 0) (.int .i64 0) (.slice none 0 0) (.slice none 0 0) (.slice none 0 0) (.slice none 0 0) (.cells #[.string ⟨#[]⟩,.int .i64 0,.int .i64 0,.int .i64 0,.string ⟨#[]⟩] 61)
        obtain ⟨⟨g0,g1,g2,g3,g4,g5⟩,_⟩:=Qh hf
        refine bodyPost_ret (v:=.tuple #[Q33,.int .i64 x]) (by simp [results,Tryz.results20,go_sem,Q33,g0,g1,g2,g3,g4,g5]) rfl ?_
        rw [Q6 HP]
        exact Q2W x (Q3r (Q6 HAr1).below (Nat.le_refl _) (by omega) _ _ _ _ _ _ _)
       | ok z =>
        obtain ⟨x,t'⟩:=z
        have hqb:=Q5O b t x t' hx
        have Hx:=Qa hx
        clear hx
        go_wp2_with fail
        have hc:=Q6S b t wr hb (by omega) (by omega)
        rw [Int.toNat_natCast,Q6 Hx] at hc
        refine hc.mono ?_
        clear hc
        rintro e w1 ⟨hq1,hb1⟩
        have hq2:e=_:=hq1
        subst hq2
        clear hq1
        have hAr1:=((Q6 hAr3).step hb1).alloc (.cells #[.string x.name,.int .i64 x.ty,.int .i64 x.cl,.int .i64 x.ttl,.string x.data] 61)
        have hMs:=((Q6 hM3).below hb1).below ((Below.refl w1.heap.size w1).alloc (Nat.le_refl _) (.cells #[.string x.name,.int .i64 x.ty,.int .i64 x.cl,.int .i64 x.ttl,.string x.data] 61))
        have hO1:=(Qk (Q6 hown3) hb1).alloc (.cells #[.string x.name,.int .i64 x.ty,.int .i64 x.cl,.int .i64 x.ttl,.string x.data] 61)
        have hM1:M≤w1.heap.size:=by have:=hb1.size; have:=Q6 hMle; omega
        have hbx:=heap_alloc_new w1 (.cells #[.string x.name,.int .i64 x.ty,.int .i64 x.cl,.int .i64 x.ttl,.string x.data] 61)
        have HAr1:=Qa hAr1
        have HMs:=Qa hMs
        have HO1:=Qa hO1
        have Hbx:=Qa hbx
        clear hAr1 hMs hO1 hbx hb1 hAr3 hM3 hMle hown3
        go_wp2_with fail
        have hc:=QaT r x i a' c' M (w1.alloc (.cells #[.string x.name,.int .i64 x.ty,.int .i64 x.cl,.int .i64 x.ttl,.string x.data] 61)) (by rw [hlen']; exact Q6 HO1) (by omega)
        rw [hlen'] at hc
        cases hmb:Q65 r x i with
        | true =>
         rw [hmb] at hc
         have hnx:Q0V b i q (j'+1)=.error 5:=by rw [Q0V,Q6 hrc]; simp only; rw [Q6 Hx]; simp only; rw [if_pos hmb]
         have HP:=Qa (Q8T b hb h12 l p (Q6 hqs) i ci m q (Q6 hpt) (j'+1) (by rw [Q6 HNC]; omega) 5 hnx)
         refine hc.mono ?_
         clear hc hnx hmb
         rintro e w2 ⟨rfl,hb2⟩
         have hAr4:=(Q6 HAr1).step hb2
         have hres:w2.heap[N]? = some (.cells #[.int .i64 0,.int .i64 0,.slice none 0 0,.slice none 0 0,.slice none 0 0,.slice none 0 0] 32 (0,0)):=hAr4.res
         obtain ⟨⟨x0,x1,x2,x3,x4,x5⟩,y0,y1,y2,y3,y4,y5⟩:=Qh hres
         have hl1:=Qb hres
         have HAr4:=Qa hAr4
         have Hres:=Qa hres
         clear hAr4 hb2 hres
         go_wp2_with fail
         have hf:=Q4T (Q6 Hres) (.int .i64 0) (.int .i64 0) (.slice none 0 0) (.slice none 0 0) (.slice none 0 0) (.slice none 0 0)
         obtain ⟨⟨g0,g1,g2,g3,g4,g5⟩,_⟩:=Qh hf
         refine bodyPost_ret (v:=.tuple #[Q33,.int .i64 5]) (by simp [results,Tryz.results20,go_sem,Q33,g0,g1,g2,g3,g4,g5]) rfl ?_
         rw [Q6 HP]
         exact Q2W 5 (Q3a (Q6 HAr4).below (Nat.le_refl _) _ _ _ _ _ _)
        | false =>
         rw [hmb] at hc
         have hnx:Q0V b i q (j'+1)=.ok (r++[x],t'):=by rw [Q0V,Q6 hrc]; simp only; rw [Q6 Hx]; simp only; rw [if_neg (by rw [hmb]; decide)]
         have HNX:=Qa hnx
         refine hc.mono ?_
         clear hc hnx hmb
         rintro e w2 ⟨rfl,hb2⟩
         have hAr4:=(Q6 HAr1).step hb2
         have hMs2:=(Q6 HMs).below hb2
         have hO2:=Qk (Q6 HO1) hb2
         have hbx2:=(hb2.block w1.heap.size (by simp)).trans (Q6 Hbx)
         obtain ⟨⟨x0,x1,x2,x3,x4⟩,y0,y1,y2,y3,y4⟩:=Q1a hbx2
         have hl2:=Qb hbx2
         have HAr4:=Qa hAr4
         have HMs2:=Qa hMs2
         have HO2:=Qa hO2
         have hM4:M≤w2.heap.size:=by omega
         clear hAr4 hMs2 hO2 hbx2 hb2 HAr1 HMs HO1 Hbx hM1
         go_wp2_with (at_builtin; refine wpList_append_lies _ rfl _ _ 27 rfl M 61 i1 (.agg #[.string ⟨#[]⟩,.int .i64 0,.int .i64 0,.int .i64 0,.string ⟨#[]⟩]) 5 56 Tryz.underlying27 (Q6 Hi) (Q6 Hz0) (Q6 Hz1) (Q6 Hz2) rfl (by decide) (.slice a' j' c') j' (Q0e r) (by rfl) ((Q6 HO2).alloc _) ⟨w2.heap.size,0,none⟩ 1 1 [.string x.name,.int .i64 x.ty,.int .i64 x.cl,.int .i64 x.ttl,.string x.data] (by rfl) rfl (Q0E _ _ _ _ _ _ _ _ rfl) (fun x hx=>by simp at hx; rcases hx with rfl | rfl | rfl | rfl | rfl <;> rfl) (by decide) (by unfold maxLen; omega) (by omega) (by simp; omega) (w2.heap.size+1) (by simp) ?_; intro g cap w3 hown5 hgrow5 hat5 hlt5)
         go_roundg (nc+1 - (j'+1))
         case measure=>omega
         case rel =>
          have hrow:∀ k,(Value.slice a' j' c').ownBlock=some k→M≤k:=fun k hk=>((Q6 HO2).lt k hk).1
          refine ⟨j'+1,r++[x],t',some ⟨g,0,none⟩,cap,by go_num,rfl,rfl,by omega,hqb.2.1,rfl,by simp [hlen'],HNX,?_,?_,?_,?_⟩
          ·exact ((Q6 HAr4).alloc _).grown hgrow5 (fun k hk=>by have:=hrow k hk; omega)
          ·exact (((Q6 HMs2).below ((Below.refl w2.heap.size w2).alloc (Nat.le_refl _) _)).grown (Q6 HU) hgrow5 hrow)
          ·show _≤_
           have:=hgrow5.size
           simp at this
           omega
          ·show World.ownsRow _ _ _ _ _ _ _
           rw [Q6Q]
           exact hown5
      ·have hjc:j'=nc:=by omega
       subst hjc
       rw [←Q6 HNC] at hrc
       have hnxt:=Qa (Qca b (Qc6 b l) p i m q (Q6 hpt) r t (Q6 hrc))
       obtain ⟨⟨x0,x1,x2,x3,x4,x5⟩,y0,y1,y2,y3,y4,y5⟩:=Qh (Q6 hAr3).box
       have hl1:=Qb (Q6 hAr3).box
       have hi012:i=0∨i=1∨i=2:=by omega
       subst hlen'
       rcases hi012 with rfl | rfl | rfl
       ·go_wp2_with fail
        go_roundg 3
        case measure=>omega
        case rel=>exact ⟨1,Q4L m 0 r,t,s1,.slice a' r.length c',s3,s4,by go_num,rfl,by omega,ht,rfl,hnxt,(Q6 hAr3).set 3 _,((Q6 hM3).put0 (Q6 HU) hMN (Q6 hown3)).set (N+1) 3 _ (by omega)⟩
       ·go_wp2_with fail
        go_roundg 2
        case measure=>omega
        case rel=>exact ⟨2,Q4L m 1 r,t,s1,s2,.slice a' r.length c',s4,by go_num,rfl,by omega,ht,rfl,hnxt,(Q6 hAr3).set 4 _,((Q6 hM3).put1 (Q6 HU) hMN (Q6 hown3)).set (N+1) 4 _ (by omega)⟩
       ·go_wp2_with fail
        go_roundg 1
        case measure=>omega
        case rel=>exact ⟨3,Q4L m 2 r,t,s1,s2,s3,.slice a' r.length c',by go_num,rfl,by omega,ht,rfl,hnxt,(Q6 hAr3).set 5 _,((Q6 hM3).put2 (Q6 HU) hMN (Q6 hown3)).set (N+1) 5 _ (by omega)⟩
    ·have hi3':i=3:=by omega
     subst hi3'
     have hE:=Qh2 b hb h12 l p (Q6 hqs) m q (Q6 hpt)
     obtain ⟨a1,c1,a2,c2,a3,c3,a4,c4,hv,_⟩:=Q6 hM2
     simp only [Value.agg.injEq,Array.mk.injEq,List.cons.injEq,and_true,true_and] at hv
     obtain ⟨rfl,rfl,rfl,rfl⟩:=hv
     have hres:wr.heap[N]? = some (.cells #[.int .i64 0,.int .i64 0,.slice none 0 0,.slice none 0 0,.slice none 0 0,.slice none 0 0] 32 (0,0)):=(Q6 hAr2).res
     have Hres:=Qa hres
     obtain ⟨⟨x0,x1,x2,x3,x4,x5⟩,y0,y1,y2,y3,y4,y5⟩:=Qh (Q6 hAr2).box
     obtain ⟨⟨u0,u1,u2,u3,u4,u5⟩,v0,v1,v2,v3,v4,v5⟩:=Qh hres
     have hl1:=Qb hres
     clear hres
     by_cases ce:q=b.size
     ·rw [if_neg (by simp [ce])] at hE
      have HE:=Qa hE
      have hpn:((q:Int) != (b.size:Int))=false:=by simp only [bne_eq_false_iff_eq]; omega
      clear hE ce
      go_wp2_with fail
      have hf:=Q4T (Q6 Hres) (.int .i64 m.id) (.int .i64 m.flags) (.slice a1 m.q.length c1) (.slice a2 m.a.length c2) (.slice a3 m.u.length c3) (.slice a4 m.x.length c4)
      obtain ⟨⟨g0,g1,g2,g3,g4,g5⟩,_⟩:=Qh hf
      refine bodyPost_ret (v:=.tuple #[.agg #[.int .i64 m.id,.int .i64 m.flags,.slice a1 m.q.length c1,.slice a2 m.a.length c2,.slice a3 m.u.length c3,.slice a4 m.x.length c4],.int .i64 0]) (by simp [results,Tryz.results20,go_sem,g0,g1,g2,g3,g4,g5]) rfl ?_
      rw [Q6 HE]
      refine ⟨_,rfl,?_,Q3a (Q6 hAr2).below (Nat.le_refl _) _ _ _ _ _ _⟩
      exact (((((((Q6 hM2).set N 0 _ (by omega)).set N 1 _ (by omega)).set N 2 _ (by omega)).set N 3 _ (by omega)).set N 4 _ (by omega)).set N 5 _ (by omega)).mono (by omega)
     ·rw [if_pos ce] at hE
      have HE:=Qa hE
      have hpn:((q:Int) != (b.size:Int))=true:=by rw [bne_iff_ne]; omega
      clear hE ce
      go_wp2_with fail
      have hf:=Q4T (Q6 Hres) (.int .i64 0) (.int .i64 0) (.slice none 0 0) (.slice none 0 0) (.slice none 0 0) (.slice none 0 0)
      obtain ⟨⟨g0,g1,g2,g3,g4,g5⟩,_⟩:=Qh hf
      refine bodyPost_ret (v:=.tuple #[Q33,.int .i64 6]) (by simp [results,Tryz.results20,go_sem,Q33,g0,g1,g2,g3,g4,g5]) rfl ?_
      rw [Q6 HE]
      exact Q2W 6 (Q3a (Q6 hAr2).below (Nat.le_refl _) _ _ _ _ _ _)
end Go.Proofs.YtdhobdmhnocbgabGreatDoor
