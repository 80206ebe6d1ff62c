import Derived.Test.YtdhobdmhnocbgabGreatDoorSParseX
import Derived.Test.YtdhobdmhnocbgabGreatDoorSRefD
namespace Go.Proofs.YtdhobdmhnocbgabGreatDoor.Zr
def Q7V (m:Msg) (i:Nat) (l:List Rc):Msg :=
 if i=0 then { m with a:=l } else if i=1 then { m with u:=l } else { m with x:=l }
def Q2H (b:ByteArray) (m0:Msg) (p1:Nat):Nat→Except Int (Msg × Nat)
 | 0=>.ok (m0,p1)
 | i+1=>match Q2H b m0 p1 i with
  | .error e=>.error e
  | .ok (m,p)=>match Q0V b i p (num b (2 * (3+i)) 2) with
   | .error e=>.error e
   | .ok (l,p')=>.ok (Q7V m i l,p')
def Qc9 (b:ByteArray) (q:List Qs):Msg:=⟨num b 0 2,num b 2 2,q,[],[],[]⟩
theorem Q5x (b:ByteArray) (h:b.size≤65535) (h12:12≤b.size):Q0X b=match Q1M b 12 (num b 4 2) with
  | .error e=>.error e
  | .ok (q,p1)=>match Q2H b (Qc9 b q) p1 3 with
   | .error e=>.error e
   | .ok (m,p)=>if p≠b.size then .error 6 else .ok m:=by
 unfold Q0X
 rw [if_neg (by omega),if_neg (by omega)]
 cases Q1M b 12 (num b 4 2) with
 | error e=>rfl
 | ok z =>
  obtain ⟨q,p1⟩:=z
  simp only [Q2H]
  have e0:2 * (3+0)=6:=rfl
  have e1:2 * (3+1)=8:=rfl
  have e2:2 * (3+2)=10:=rfl
  rw [e0]
  cases Q0V b 0 p1 (num b 6 2) with
  | error e=>rfl
  | ok z =>
   obtain ⟨a,p2⟩:=z
   simp only
   rw [e1]
   cases Q0V b 1 p2 (num b 8 2) with
   | error e=>rfl
   | ok z =>
    obtain ⟨u,p3⟩:=z
    simp only
    rw [e2]
    cases Q0V b 2 p3 (num b 10 2) with
    | error e=>rfl
    | ok z=>rfl
theorem Qcz (b:ByteArray) (h:b.size≤65535) (h12:12≤b.size) (j:Nat) (hj:j≤num b 4 2) (x:Int) (he:Q1M b 12 j=.error x):Q0X b=.error x:=by
 rw [Q5x b h h12,QdY b 12 j x he _ hj]
theorem Qcr (b:ByteArray) (m0:Msg) (p1 j:Nat) (x:Int) (h:Q2H b m0 p1 j=.error x):∀ i,j≤i→Q2H b m0 p1 i=.error x:=by
 intro i hi
 obtain ⟨d,rfl⟩:∃ d,i=j+d:=⟨i - j,by omega⟩
 clear hi
 induction d with
 | zero=>exact h
 | succ d ih=>rw [←Nat.add_assoc,Q2H,ih]
theorem Q8Y (b:ByteArray) (h:b.size≤65535) (h12:12≤b.size) (q:List Qs) (p1:Nat) (hq:Q1M b 12 (num b 4 2)=.ok (q,p1)) (i:Nat) (hi:i < 3) (m:Msg) (p:Nat) (hp:Q2H b (Qc9 b q) p1 i=.ok (m,p))
  (j:Nat) (hj:j≤num b (2 * (3+i)) 2) (x:Int) (he:Q0V b i p j=.error x):Q0X b=.error x:=by
 have h1:Q2H b (Qc9 b q) p1 (i+1)=.error x:=by
  rw [Q2H,hp]; simp only; rw [Qd8 b i p j x he _ hj]
 rw [Q5x b h h12,hq]
 simp only
 rw [Qcr b _ p1 (i+1) x h1 3 (by omega)]
theorem Qhl (b:ByteArray) (h:b.size≤65535) (h12:12≤b.size) (q:List Qs) (p1:Nat) (hq:Q1M b 12 (num b 4 2)=.ok (q,p1)) (m:Msg) (p:Nat) (hp:Q2H b (Qc9 b q) p1 3=.ok (m,p)) :
  Q0X b=if p≠b.size then .error 6 else .ok m:=by
 rw [Q5x b h h12,hq]
 simp only
 rw [hp]
theorem Qcf (b:ByteArray) (m0:Msg) (p1 i:Nat) (m:Msg) (p:Nat) (hp:Q2H b m0 p1 i=.ok (m,p)) (l:List Rc) (p':Nat) (hl:Q0V b i p (num b (2 * (3+i)) 2)=.ok (l,p')):Q2H b m0 p1 (i+1)=.ok (Q7V m i l,p'):=by
 rw [Q2H,hp]; simp only; rw [hl]
end Go.Proofs.YtdhobdmhnocbgabGreatDoor.Zr
namespace Go.Proofs.YtdhobdmhnocbgabGreatDoor
open Go.RowKit Zr
def QdV (v:Value) (M:Nat):Prop:=∀ g,v.ownBlock=some g→g < M
def Qas (v:Value) (M:Nat):Prop:=∀ i f s1 s2 s3 s4,v=.agg #[i,f,s1,s2,s3,s4]→QdV s1 M∧QdV s2 M∧QdV s3 M∧QdV s4 M
theorem Qkf {w:World} {N:Nat} (b:ByteArray) (q:List Qs) {a:Option Addr} {c:Nat} (h:w.ownsRow N 91 3 (.slice a q.length c) q.length (Q1L q)) :
  MsgIs w N (.agg #[.int .i64 (num b 0 2),.int .i64 (num b 2 2),.slice a q.length c,.slice none 0 0,.slice none 0 0,.slice none 0 0]) (Qc9 b q) :=
 ⟨a,c,none,0,none,0,none,0,rfl,h,World.ownsRow_nil _ _ _ _,World.ownsRow_nil _ _ _ _,World.ownsRow_nil _ _ _ _,
  fun g _ h2=>by simp [Value.ownBlock] at h2,fun g _ h2=>by simp [Value.ownBlock] at h2,fun g _ h2=>by simp [Value.ownBlock] at h2,fun g _ h2=>by simp [Value.ownBlock] at h2,fun g _ h2=>by simp [Value.ownBlock] at h2,fun g _ h2=>by simp [Value.ownBlock] at h2⟩
end Go.Proofs.YtdhobdmhnocbgabGreatDoor
namespace Go.Proofs.YtdhobdmhnocbgabGreatDoor
open Go.RowKit Zr
structure Around (w:World) (N:Nat) (wr:World) (cs:Array Value):Prop where
 res:wr.heap[N]? = some Q26
 box:wr.heap[N+1]? = some (.cells cs 32 (0,0))
 below:Below N w wr
theorem Around.step {w wr wr':World} {N:Nat} {cs:Array Value} (h:Around w N wr cs) (hb:Below wr.heap.size wr wr'):Around w N wr' cs :=
 ⟨(hb.block N (Qb h.res)).trans h.res,(hb.block (N+1) (Qb h.box)).trans h.box,h.below.trans (hb.mono (by have:=Qb h.box; omega))⟩
theorem Around.alloc {w wr:World} {N:Nat} {cs:Array Value} (h:Around w N wr cs) (o:Obj):Around w N (wr.alloc o) cs :=
 h.step ((Below.refl _ _).alloc (Nat.le_refl _) _)
theorem Around.grown {w wr wr':World} {N:Nat} {cs:Array Value} {row:Option Nat} (h:Around w N wr cs) (hg:wr.grownBy wr' row) (hr:∀ k,row=some k→N+2≤k):Around w N wr' cs:=by
 have h1:=Qb h.box
 refine ⟨(hg.block N (Qb h.res) (fun e=>by have:=hr N e.symm; omega)).trans h.res,(hg.block (N+1) h1 (fun e=>by have:=hr _ e.symm; omega)).trans h.box,?_⟩
 exact Below.grown h.below hg (by omega) (fun k hk=>by have:=hr k hk; omega)
theorem Around.set {w wr:World} {N:Nat} {cs:Array Value} (h:Around w N wr cs) (j:Nat) (v:Value):Around w N (wr.setCell ⟨N+1,j,none⟩ v) (cs.setIfInBounds j v) :=
 ⟨(Qf (by omega) _ _).trans h.res,Qo h.box _ _,h.below.setCell (show N≤N+1 by omega) _⟩
theorem Qk {w w':World} {N:Nat} {e:TypeId} {size:Nat} {v:Value} {n:Nat} {xs:List Value} (h:w.ownsRow N e size v n xs) (hb:Below w.heap.size w w'):w'.ownsRow N e size v n xs:=by
 refine h.kept (Q1z (row:=none) hb) ?_
 cases v.ownBlock with
 | none=>exact .inl rfl
 | some g=>exact .inr (by simp)
set_option maxRecDepth 100000 in
set_option maxHeartbeats 4000000 in
theorem Q7l (b:ByteArray) (w:World) (hm:b.size≤maxLen) :
  Calls Tryz.prog 20 #[.string b] w fun e w'=>Qco w.heap.size w (Q0X b) e w':=by
 unfold maxLen at hm
 generalize hN:w.heap.size=N
 by_cases c:65535 < b.size
 ·have HP:Hid (Q0X b=.error 1):=by show _=_; unfold Q0X; rw [if_pos c]
  go_enter Tryz.func20,Tryz.ntmps20
  go_wp2_with fail
  have hA:(w.alloc Q26).heap[N]? = some Q26:=by rw [←hN]; exact heap_alloc_new _ _
  unfold Q26 at hA
  obtain ⟨⟨g0,g1,g2,g3,g4,g5⟩,_⟩:=Qh hA
  refine bodyPost_ret (v:=.tuple #[Q34,.int .i64 1]) (by simp [results,Tryz.results20,go_sem,Q34,g0,g1,g2,g3,g4,g5]) rfl ?_
  rw [Q6 HP]
  exact Q2V 1 ((Below.refl _ _).alloc (by omega) _)
 have hb:b.size≤65535:=by omega
 by_cases c12:b.size < 12
 ·have HP:Hid (Q0X b=.error 2):=by show _=_; unfold Q0X; rw [if_neg c,if_pos c12]
  have hA:=(Q2f w Q26 Q26).1
  have hG:Below N w ((w.alloc Q26).alloc Q26):=((Below.refl _ _).alloc (by omega) _).alloc (by simp; omega) _
  rw [hN] at hA
  unfold Q26 at hA hG
  go_enter Tryz.func20,Tryz.ntmps20
  go_wp2_with fail
  obtain ⟨⟨g0,g1,g2,g3,g4,g5⟩,_⟩:=Qh hA
  refine bodyPost_ret (v:=.tuple #[Q34,.int .i64 2]) (by simp [results,Tryz.results20,go_sem,Q34,g0,g1,g2,g3,g4,g5]) rfl ?_
  rw [Q6 HP]
  exact Q2V 2 hG
 have h12:12≤b.size:=by omega
 have hA:=(Q2f w Q26 Q26).1
 have hB:=(Q2f w Q26 Q26).2
 have hG:Below N w ((w.alloc Q26).alloc Q26):=((Below.refl _ _).alloc (by omega) _).alloc (by simp; omega) _
 rw [hN] at hA hB
 have HAr:Around w N ((w.alloc Q26).alloc Q26) #[.int .i64 0,.int .i64 0,.slice none 0 0,.slice none 0 0,.slice none 0 0,.slice none 0 0]:=⟨hA,hB,hG⟩
 unfold Q26 at HAr
 clear hA hB hG c c12
 go_enter Tryz.func20,Tryz.ntmps20
 go_wp2_with fail
 generalize (w.alloc (.cells #[.int .i64 0,.int .i64 0,.slice none 0 0,.slice none 0 0,.slice none 0 0,.slice none 0 0] 32 (0,0))).alloc (.cells #[.int .i64 0,.int .i64 0,.slice none 0 0,.slice none 0 0,.slice none 0 0,.slice none 0 0] 32 (0,0))=w0 at *
 refine (Q4l b 0 _ hb (by omega) (by omega) h12).mono ?_
 rw [show 2 * (0:Int).toNat=0 from rfl]
 rintro e w1 ⟨rfl,rfl⟩
 obtain ⟨⟨x0,x1,x2,x3,x4,x5⟩,y0,y1,y2,y3,y4,y5⟩:=Qh HAr.box
 have hAr1:=HAr.set 0 (.int .i64 (num b 0 2))
 have hl1:=Qb HAr.box
 clear HAr
 go_wp2_with fail
 generalize w1.setCell ⟨N+1,0,none⟩ (.int .i64 (num b 0 2))=w2 at *
 clear x0 x1 x2 x3 x4 x5 y0 y1 y2 y3 y4 y5 hl1 w1
 refine (Q4l b 1 _ hb (by omega) (by omega) h12).mono ?_
 rw [show 2 * (1:Int).toNat=2 from rfl]
 rintro e w1 ⟨rfl,rfl⟩
 have hAr1':Around w N w1 #[.int .i64 (num b 0 2),.int .i64 0,.slice none 0 0,.slice none 0 0,.slice none 0 0,.slice none 0 0]:=hAr1
 obtain ⟨⟨x0,x1,x2,x3,x4,x5⟩,y0,y1,y2,y3,y4,y5⟩:=Qh hAr1'.box
 have hAr2:=hAr1'.set 1 (.int .i64 (num b 2 2))
 have hl1:=Qb hAr1'.box
 clear hAr1 hAr1'
 go_wp2_with fail
 generalize w1.setCell ⟨N+1,1,none⟩ (.int .i64 (num b 2 2))=w2 at *
 clear x0 x1 x2 x3 x4 x5 y0 y1 y2 y3 y4 y5 hl1 w1
 refine (Q4l b 2 _ hb (by omega) (by omega) h12).mono ?_
 rw [show 2 * (2:Int).toNat=4 from rfl]
 rintro e w1 ⟨rfl,rfl⟩
 have hAr3:Around w N w1 #[.int .i64 (num b 0 2),.int .i64 (num b 2 2),.slice none 0 0,.slice none 0 0,.slice none 0 0,.slice none 0 0]:=hAr2
 have HAr:=Qa hAr3
 clear hAr2 hAr3
 go_wp2_with fail
 have hn1:=Q0n b 4
 generalize hn:num b 4 2=n1 at *
 have HN:=Qa hn
 clear hn
 obtain ⟨i0,hi,hz0,hz1,hz2⟩:=info_parts Tryz.info91
 have Hi:=Qa hi
 have Hz0:=Qa hz0
 have Hz1:=Qa hz1
 have Hz2:=Qa hz2
 clear hi hz0 hz1 hz2
 go_loopg [5,8] (n1+1) (fun g at' k w'=>∃ (j:Nat) (l:List Qs) (p:Nat) (a:Option Addr) (c:Nat),k=.int .i64 j∧at'=.int .i64 p∧j≤n1∧p≤b.size∧g=n1+1 - j∧l.length=j∧Hid (Q1M b 12 j=.ok (l,p)) ∧
  Hid (Around w N w' #[.int .i64 (num b 0 2),.int .i64 (num b 2 2),.slice a j c,.slice none 0 0,.slice none 0 0,.slice none 0 0])∧Hid (w'.ownsRow (N+2) 91 3 (.slice a j c) j (Q1L l)))
 case atStart=>exact ⟨0,[],12,none,0,rfl,rfl,Nat.zero_le _,h12,by omega,rfl,rfl,HAr,World.ownsRow_nil _ _ _ _⟩
 case round =>
  obtain ⟨j,l,p,a,c,rfl,rfl,hj,hp,hg,hlen,hqs,hAr,hown⟩:=hrel
  by_cases cj:j < n1
  ·cases hq:Q0i b p with
   | error x =>
    have hnx:Q1M b 12 (j+1)=.error x:=by rw [Q1M,Q6 hqs]; simp only; rw [hq]
    have HP:=Qa (Qcz b hb h12 (j+1) (by rw [Q6 HN]; omega) x hnx)
    have Hq:=Qa hq
    clear hnx hq
    go_wp2_with fail
    have hc:=Q5N b p wr hb (by omega) (by omega)
    rw [Int.toNat_natCast,Q6 Hq] at hc
    refine hc.mono ?_
    clear hc
    rintro e w1 ⟨⟨hx0,rfl⟩,hb1⟩
    have hx1:(x != 0)=true:=by rw [bne_iff_ne]; exact hx0
    have hAr1:=(Q6 hAr).step hb1
    have hres:w1.heap[N]? = some (.cells #[.int .i64 0,.int .i64 0,.slice none 0 0,.slice none 0 0,.slice none 0 0,.slice none 0 0] 32 (0,0)):=hAr1.res
    obtain ⟨⟨x0,x1,x2,x3,x4,x5⟩,y0,y1,y2,y3,y4,y5⟩:=Qh hres
    have hl1:=Qb hres
    have HAr1:=Qa hAr1
    have Hres:=Qa hres
    clear hAr1 hx0 hb1 hAr hown hres
    go_wp2_with fail
    have hf:=Q4s (Q6 Hres) (.int .i64 0) (.int .i64 0) (.slice none 0 0) (.slice none 0 0) (.slice none 0 0) (.slice none 0 0) (.cells #[.string ⟨#[]⟩,.int .i64 0,.int .i64 0] 91)
    obtain ⟨⟨g0,g1,g2,g3,g4,g5⟩,_⟩:=Qh hf
    refine bodyPost_ret (v:=.tuple #[Q34,.int .i64 x]) (by simp [results,Tryz.results20,go_sem,Q34,g0,g1,g2,g3,g4,g5]) rfl ?_
    rw [Q6 HP]
    exact Q2V x (Q3y (Q6 HAr1).below (Nat.le_refl _) (by omega) _ _ _ _ _ _ _)
   | ok z =>
    obtain ⟨q,p'⟩:=z
    have hqb:=Q4I b p q p' hq
    have hnx:Q1M b 12 (j+1)=.ok (l++[q],p'):=by rw [Q1M,Q6 hqs]; simp only; rw [hq]
    have HNX:=Qa hnx
    have Hq:=Qa hq
    clear hnx hq
    go_wp2_with fail
    have hc:=Q5N b p wr hb (by omega) (by omega)
    rw [Int.toNat_natCast,Q6 Hq] at hc
    refine hc.mono ?_
    clear hc
    rintro e w1 ⟨hq1,hb1⟩
    have hq2:e=_:=hq1
    subst hq2
    clear hq1
    have hAr1:=(Q6 hAr).step hb1
    obtain ⟨⟨x0,x1,x2,x3,x4,x5⟩,y0,y1,y2,y3,y4,y5⟩:=Qh hAr1.box
    have hl1:=Qb hAr1.box
    have hO1:=Qa (Qk (Q6 hown) hb1)
    have HAr1:=Qa hAr1
    clear hAr1 hb1 hAr hown
    go_wp2_with (at_builtin; refine wpList_append_lies _ rfl _ _ 30 rfl (N+2) 91 i0 (.agg #[.string ⟨#[]⟩,.int .i64 0,.int .i64 0]) 3 32 Tryz.underlying30 (Q6 Hi) (Q6 Hz0) (Q6 Hz1) (Q6 Hz2) rfl (by decide) (.slice a j c) j (Q1L l) (by rfl) (((Q6 hO1).alloc _).alloc _) ⟨w1.heap.size+1,0,none⟩ 1 1 [.string q.name,.int .i64 q.ty,.int .i64 q.cl] (by rfl) rfl (Q3m _ _ _ _ _ _ (by simp)) (fun x hx=>by simp at hx; rcases hx with rfl | rfl | rfl <;> rfl) (by decide) (by unfold maxLen; omega) (by omega) (by simp; omega) (w1.heap.size+2) (by simp) ?_; intro g cap w3 hown3 hgrow3 hat3 hlt3; have hA3:=(((Q6 HAr1).alloc _).alloc _).grown hgrow3 (fun k hk=>((Q6 hO1).lt k hk).1); obtain ⟨⟨q0,q1,q2,q3,q4,q5⟩,z0,z1,z2,z3,z4,z5⟩:=Qh hA3.box; have hl3:=Qb hA3.box)
    go_roundg (n1+1 - (j+1))
    case measure=>omega
    case rel =>
     refine ⟨j+1,l++[q],p',some ⟨g,0,none⟩,cap,by go_num,rfl,by omega,hqb.2.1,rfl,by simp [hlen],HNX,?_,?_⟩
     ·exact hA3.set 2 _
     ·show World.ownsRow _ _ _ _ _ _ _
      rw [Q6Q]
      exact Q0p hown3 (Ql _ _ _ _) (by omega)
  ·have hjn:j=n1:=by omega
   subst hjn
   rw [←Q6 HN] at hqs
   have hM0:MsgIs wr (N+2) (.agg #[.int .i64 (num b 0 2),.int .i64 (num b 2 2),.slice a j c,.slice none 0 0,.slice none 0 0,.slice none 0 0]) (Qc9 b l):=by
    have h:=Q6 hown
    subst hlen
    exact Qkf b l h
   have HM0:=Qa hM0
   clear hM0 hown Hi Hz0 Hz1 Hz2 HAr
   obtain ⟨i1,hi,hz0,hz1,hz2⟩:=info_parts Tryz.info61
   have Hi:=Qa hi
   have Hz0:=Qa hz0
   have Hz1:=Qa hz1
   have Hz2:=Qa hz2
   clear hi hz0 hz1 hz2
   go_wp2_with fail
   go_loopg [5,12] 4 (fun g at' k w'=>∃ (i:Nat) (m:Msg) (q:Nat) (s1 s2 s3 s4:Value),k=.int .i64 i∧at'=.int .i64 q∧i≤3∧q≤b.size∧g=4 - i∧Hid (Q2H b (Qc9 b l) p i=.ok (m,q)) ∧
    Hid (Around w N w' #[.int .i64 m.id,.int .i64 m.flags,s1,s2,s3,s4])∧Hid (MsgIs w' (N+2) (.agg #[.int .i64 m.id,.int .i64 m.flags,s1,s2,s3,s4]) m))
   case atStart=>exact ⟨0,Qc9 b l,p,_,_,_,_,rfl,rfl,by omega,hp,rfl,rfl,hAr,HM0⟩
   case round =>
    obtain ⟨i,m,q,s1,s2,s3,s4,rfl,rfl,hi3,hq,hgk,hpt,hAr2,hM2⟩:=hrel
    by_cases ci:i < 3
    ·have hnn:=Q0n b (2 * (3+i))
     generalize hnc:num b (2 * (3+i)) 2=nc at hnn
     have HNC:=Qa hnc
     clear hnc
     go_wp2_with fail
     have hc:=Q4l b (3+i) wr hb (by omega) (by omega) h12
     rw [show 2 * (3+(i:Int)).toNat=2 * (3+i) from by omega,Q6 HNC] at hc
     refine hc.mono ?_
     clear hc
     rintro e w1 ⟨rfl,rfl⟩
     obtain ⟨M,hM⟩:∃ M,M=w1.heap.size:=⟨_,rfl⟩
     have hMN:N+2≤M:=by have:=Qb (Q6 hAr2).box; omega
     have hU:Qas (.agg #[.int .i64 m.id,.int .i64 m.flags,s1,s2,s3,s4]) M:=by rw [hM]; exact (Q6 hM2).under
     have HU:=Qa hU
     have HMle:Hid (M≤w1.heap.size):=by show _≤_; omega
     clear hM hU
     go_wp2_with fail
     go_loopg [5,13,14] (nc+1) (fun g at' lv k w'=>∃ (j:Nat) (r:List Rc) (t:Nat) (a:Option Addr) (c:Nat),k=.int .i64 j∧at'=.int .i64 t∧lv=.slice a j c∧j≤nc∧t≤b.size∧g=nc+1 - j∧r.length=j∧Hid (Q0V b i q j=.ok (r,t)) ∧
      Hid (Around w N w' #[.int .i64 m.id,.int .i64 m.flags,s1,s2,s3,s4])∧Hid (MsgIs w' (N+2) (.agg #[.int .i64 m.id,.int .i64 m.flags,s1,s2,s3,s4]) m)∧Hid (M≤w'.heap.size)∧Hid (w'.ownsRow M 61 5 (.slice a j c) j (Q0j r)))
     case atStart=>exact ⟨0,[],q,none,0,rfl,rfl,rfl,Nat.zero_le _,hq,by omega,rfl,rfl,hAr2,hM2,HMle,World.ownsRow_nil _ _ _ _⟩
     case round =>
      obtain ⟨j',r,t,a',c',rfl,rfl,rfl,hj',ht,hg',hlen',hrc,hAr3,hM3,hMle,hown3⟩:=hrel
      by_cases cj:j' < nc
      ·cases hx:Q0U b t with
       | error x =>
        have hnx:Q0V b i q (j'+1)=.error x:=by rw [Q0V,Q6 hrc]; simp only; rw [hx]
        have HP:=Qa (Q8Y b hb h12 l p (Q6 hqs) i ci m q (Q6 hpt) (j'+1) (by rw [Q6 HNC]; omega) x hnx)
        have Hx:=Qa hx
        clear hnx hx
        go_wp2_with fail
        have hc:=Q6M b t wr hb (by omega) (by omega)
        rw [Int.toNat_natCast,Q6 Hx] at hc
        refine hc.mono ?_
        clear hc
        rintro e w1 ⟨⟨hx0,rfl⟩,hb1⟩
        have hx1:(x != 0)=true:=by rw [bne_iff_ne]; exact hx0
        have hAr1:=(Q6 hAr3).step hb1
        have hres:w1.heap[N]? = some (.cells #[.int .i64 0,.int .i64 0,.slice none 0 0,.slice none 0 0,.slice none 0 0,.slice none 0 0] 32 (0,0)):=hAr1.res
        obtain ⟨⟨x0,x1,x2,x3,x4,x5⟩,y0,y1,y2,y3,y4,y5⟩:=Qh hres
        have hl1:=Qb hres
        have HAr1:=Qa hAr1
        have Hres:=Qa hres
        clear hAr1 hx0 hb1 hres
        go_wp2_with fail
        have hf:=Q4s (Q6 Hres) (.int .i64 0) (.int .i64 0) (.slice none 0 0) (.slice none 0 0) (.slice none 0 0) (.slice none 0 0) (.cells #[.string ⟨#[]⟩,.int .i64 0,.int .i64 0,.int .i64 0,.string ⟨#[]⟩] 61)
        obtain ⟨⟨g0,g1,g2,g3,g4,g5⟩,_⟩:=Qh hf
        refine bodyPost_ret (v:=.tuple #[Q34,.int .i64 x]) (by simp [results,Tryz.results20,go_sem,Q34,g0,g1,g2,g3,g4,g5]) rfl ?_
        rw [Q6 HP]
        exact Q2V x (Q3y (Q6 HAr1).below (Nat.le_refl _) (by omega) _ _ _ _ _ _ _)
       | ok z =>
        obtain ⟨x,t'⟩:=z
        have hqb:=Q5M b t x t' hx
        have Hx:=Qa hx
        clear hx
        go_wp2_with fail
        have hc:=Q6M b t wr hb (by omega) (by omega)
        rw [Int.toNat_natCast,Q6 Hx] at hc
        refine hc.mono ?_
        clear hc
        rintro e w1 ⟨hq1,hb1⟩
        have hq2:e=_:=hq1
        subst hq2
        clear hq1
        have hAr1:=((Q6 hAr3).step hb1).alloc (.cells #[.string x.name,.int .i64 x.ty,.int .i64 x.cl,.int .i64 x.ttl,.string x.data] 61)
        have hMs:=((Q6 hM3).below hb1).below ((Below.refl w1.heap.size w1).alloc (Nat.le_refl _) (.cells #[.string x.name,.int .i64 x.ty,.int .i64 x.cl,.int .i64 x.ttl,.string x.data] 61))
        have hO1:=(Qk (Q6 hown3) hb1).alloc (.cells #[.string x.name,.int .i64 x.ty,.int .i64 x.cl,.int .i64 x.ttl,.string x.data] 61)
        have hM1:M≤w1.heap.size:=by have:=hb1.size; have:=Q6 hMle; omega
        have hbx:=heap_alloc_new w1 (.cells #[.string x.name,.int .i64 x.ty,.int .i64 x.cl,.int .i64 x.ttl,.string x.data] 61)
        have HAr1:=Qa hAr1
        have HMs:=Qa hMs
        have HO1:=Qa hO1
        have Hbx:=Qa hbx
        clear hAr1 hMs hO1 hbx hb1 hAr3 hM3 hMle hown3
        go_wp2_with fail
        have hc:=QaS r x i a' c' M (w1.alloc (.cells #[.string x.name,.int .i64 x.ty,.int .i64 x.cl,.int .i64 x.ttl,.string x.data] 61)) (by rw [hlen']; exact Q6 HO1) (by omega)
        rw [hlen'] at hc
        cases hmb:Q6j r x i with
        | true =>
         rw [hmb] at hc
         have hnx:Q0V b i q (j'+1)=.error 5:=by rw [Q0V,Q6 hrc]; simp only; rw [Q6 Hx]; simp only; rw [if_pos hmb]
         have HP:=Qa (Q8Y b hb h12 l p (Q6 hqs) i ci m q (Q6 hpt) (j'+1) (by rw [Q6 HNC]; omega) 5 hnx)
         refine hc.mono ?_
         clear hc hnx hmb
         rintro e w2 ⟨rfl,hb2⟩
         have hAr4:=(Q6 HAr1).step hb2
         have hres:w2.heap[N]? = some (.cells #[.int .i64 0,.int .i64 0,.slice none 0 0,.slice none 0 0,.slice none 0 0,.slice none 0 0] 32 (0,0)):=hAr4.res
         obtain ⟨⟨x0,x1,x2,x3,x4,x5⟩,y0,y1,y2,y3,y4,y5⟩:=Qh hres
         have hl1:=Qb hres
         have HAr4:=Qa hAr4
         have Hres:=Qa hres
         clear hAr4 hb2 hres
         go_wp2_with fail
         have hf:=Q4Q (Q6 Hres) (.int .i64 0) (.int .i64 0) (.slice none 0 0) (.slice none 0 0) (.slice none 0 0) (.slice none 0 0)
         obtain ⟨⟨g0,g1,g2,g3,g4,g5⟩,_⟩:=Qh hf
         refine bodyPost_ret (v:=.tuple #[Q34,.int .i64 5]) (by simp [results,Tryz.results20,go_sem,Q34,g0,g1,g2,g3,g4,g5]) rfl ?_
         rw [Q6 HP]
         exact Q2V 5 (Q3e (Q6 HAr4).below (Nat.le_refl _) _ _ _ _ _ _)
        | false =>
         rw [hmb] at hc
         have hnx:Q0V b i q (j'+1)=.ok (r++[x],t'):=by rw [Q0V,Q6 hrc]; simp only; rw [Q6 Hx]; simp only; rw [if_neg (by rw [hmb]; decide)]
         have HNX:=Qa hnx
         refine hc.mono ?_
         clear hc hnx hmb
         rintro e w2 ⟨rfl,hb2⟩
         have hAr4:=(Q6 HAr1).step hb2
         have hMs2:=(Q6 HMs).below hb2
         have hO2:=Qk (Q6 HO1) hb2
         have hbx2:=(hb2.block w1.heap.size (by simp)).trans (Q6 Hbx)
         obtain ⟨⟨x0,x1,x2,x3,x4⟩,y0,y1,y2,y3,y4⟩:=Q1b hbx2
         have hl2:=Qb hbx2
         have HAr4:=Qa hAr4
         have HMs2:=Qa hMs2
         have HO2:=Qa hO2
         have hM4:M≤w2.heap.size:=by omega
         clear hAr4 hMs2 hO2 hbx2 hb2 HAr1 HMs HO1 Hbx hM1
         go_wp2_with (at_builtin; refine wpList_append_lies _ rfl _ _ 27 rfl M 61 i1 (.agg #[.string ⟨#[]⟩,.int .i64 0,.int .i64 0,.int .i64 0,.string ⟨#[]⟩]) 5 56 Tryz.underlying27 (Q6 Hi) (Q6 Hz0) (Q6 Hz1) (Q6 Hz2) rfl (by decide) (.slice a' j' c') j' (Q0j r) (by rfl) ((Q6 HO2).alloc _) ⟨w2.heap.size,0,none⟩ 1 1 [.string x.name,.int .i64 x.ty,.int .i64 x.cl,.int .i64 x.ttl,.string x.data] (by rfl) rfl (Q0G _ _ _ _ _ _ _ _ rfl) (fun x hx=>by simp at hx; rcases hx with rfl | rfl | rfl | rfl | rfl <;> rfl) (by decide) (by unfold maxLen; omega) (by omega) (by simp; omega) (w2.heap.size+1) (by simp) ?_; intro g cap w3 hown5 hgrow5 hat5 hlt5)
         go_roundg (nc+1 - (j'+1))
         case measure=>omega
         case rel =>
          have hrow:∀ k,(Value.slice a' j' c').ownBlock=some k→M≤k:=fun k hk=>((Q6 HO2).lt k hk).1
          refine ⟨j'+1,r++[x],t',some ⟨g,0,none⟩,cap,by go_num,rfl,rfl,by omega,hqb.2.1,rfl,by simp [hlen'],HNX,?_,?_,?_,?_⟩
          ·exact ((Q6 HAr4).alloc _).grown hgrow5 (fun k hk=>by have:=hrow k hk; omega)
          ·exact (((Q6 HMs2).below ((Below.refl w2.heap.size w2).alloc (Nat.le_refl _) _)).grown (Q6 HU) hgrow5 hrow)
          ·show _≤_
           have:=hgrow5.size
           simp at this
           omega
          ·show World.ownsRow _ _ _ _ _ _ _
           rw [Q6J]
           exact hown5
      ·have hjc:j'=nc:=by omega
       subst hjc
       rw [←Q6 HNC] at hrc
       have hnxt:=Qa (Qcf b (Qc9 b l) p i m q (Q6 hpt) r t (Q6 hrc))
       obtain ⟨⟨x0,x1,x2,x3,x4,x5⟩,y0,y1,y2,y3,y4,y5⟩:=Qh (Q6 hAr3).box
       have hl1:=Qb (Q6 hAr3).box
       have hi012:i=0∨i=1∨i=2:=by omega
       subst hlen'
       rcases hi012 with rfl | rfl | rfl
       ·go_wp2_with fail
        go_roundg 3
        case measure=>omega
        case rel=>exact ⟨1,Q7V m 0 r,t,s1,.slice a' r.length c',s3,s4,by go_num,rfl,by omega,ht,rfl,hnxt,(Q6 hAr3).set 3 _,((Q6 hM3).put0 (Q6 HU) hMN (Q6 hown3)).set (N+1) 3 _ (by omega)⟩
       ·go_wp2_with fail
        go_roundg 2
        case measure=>omega
        case rel=>exact ⟨2,Q7V m 1 r,t,s1,s2,.slice a' r.length c',s4,by go_num,rfl,by omega,ht,rfl,hnxt,(Q6 hAr3).set 4 _,((Q6 hM3).put1 (Q6 HU) hMN (Q6 hown3)).set (N+1) 4 _ (by omega)⟩
       ·go_wp2_with fail
        go_roundg 1
        case measure=>omega
        case rel=>exact ⟨3,Q7V m 2 r,t,s1,s2,s3,.slice a' r.length c',by go_num,rfl,by omega,ht,rfl,hnxt,(Q6 hAr3).set 5 _,((Q6 hM3).put2 (Q6 HU) hMN (Q6 hown3)).set (N+1) 5 _ (by omega)⟩
    ·have hi3':i=3:=by omega
     subst hi3'
     have hE:=Qhl b hb h12 l p (Q6 hqs) m q (Q6 hpt)
     obtain ⟨a1,c1,a2,c2,a3,c3,a4,c4,hv,_⟩:=Q6 hM2
     simp only [Value.agg.injEq,Array.mk.injEq,List.cons.injEq,and_true,true_and] at hv
     obtain ⟨rfl,rfl,rfl,rfl⟩:=hv
     have hres:wr.heap[N]? = some (.cells #[.int .i64 0,.int .i64 0,.slice none 0 0,.slice none 0 0,.slice none 0 0,.slice none 0 0] 32 (0,0)):=(Q6 hAr2).res
     have Hres:=Qa hres
     obtain ⟨⟨x0,x1,x2,x3,x4,x5⟩,y0,y1,y2,y3,y4,y5⟩:=Qh (Q6 hAr2).box
     obtain ⟨⟨u0,u1,u2,u3,u4,u5⟩,v0,v1,v2,v3,v4,v5⟩:=Qh hres
     have hl1:=Qb hres
     clear hres
     by_cases ce:q=b.size
     ·rw [if_neg (by simp [ce])] at hE
      have HE:=Qa hE
      have hpn:((q:Int) != (b.size:Int))=false:=by simp only [bne_eq_false_iff_eq]; omega
      clear hE ce
      go_wp2_with fail
      have hf:=Q4Q (Q6 Hres) (.int .i64 m.id) (.int .i64 m.flags) (.slice a1 m.q.length c1) (.slice a2 m.a.length c2) (.slice a3 m.u.length c3) (.slice a4 m.x.length c4)
      obtain ⟨⟨g0,g1,g2,g3,g4,g5⟩,_⟩:=Qh hf
      refine bodyPost_ret (v:=.tuple #[.agg #[.int .i64 m.id,.int .i64 m.flags,.slice a1 m.q.length c1,.slice a2 m.a.length c2,.slice a3 m.u.length c3,.slice a4 m.x.length c4],.int .i64 0]) (by simp [results,Tryz.results20,go_sem,g0,g1,g2,g3,g4,g5]) rfl ?_
      rw [Q6 HE]
      refine ⟨_,rfl,?_,Q3e (Q6 hAr2).below (Nat.le_refl _) _ _ _ _ _ _⟩
      exact (((((((Q6 hM2).set N 0 _ (by omega)).set N 1 _ (by omega)).set N 2 _ (by omega)).set N 3 _ (by omega)).set N 4 _ (by omega)).set N 5 _ (by omega)).mono (by omega)
     ·rw [if_pos ce] at hE
      have HE:=Qa hE
      have hpn:((q:Int) != (b.size:Int))=true:=by rw [bne_iff_ne]; omega
      clear hE ce
      go_wp2_with fail
      have hf:=Q4Q (Q6 Hres) (.int .i64 0) (.int .i64 0) (.slice none 0 0) (.slice none 0 0) (.slice none 0 0) (.slice none 0 0)
      obtain ⟨⟨g0,g1,g2,g3,g4,g5⟩,_⟩:=Qh hf
      refine bodyPost_ret (v:=.tuple #[Q34,.int .i64 6]) (by simp [results,Tryz.results20,go_sem,Q34,g0,g1,g2,g3,g4,g5]) rfl ?_
      rw [Q6 HE]
      exact Q2V 6 (Q3e (Q6 hAr2).below (Nat.le_refl _) _ _ _ _ _ _)
end Go.Proofs.YtdhobdmhnocbgabGreatDoor
