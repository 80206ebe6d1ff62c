import Derived.Test.YtdhobdmhnocbgabGreatDoorSStates
import Derived.Deep.AppendLies
namespace Go.Proofs.YtdhobdmhnocbgabGreatDoor
open Go.RowKit Zr
theorem QlX {w:World} {P:Nat} {x0 x1 x2:Value} {t:TypeId} (h:w.heap[P]? = some (.cells #[x0,x1,x2] t (0,0))) (v0 v1 v2:Value) :
  (((w.setCell ⟨P,0,none⟩ v0).setCell ⟨P,1,none⟩ v1).setCell ⟨P,2,none⟩ v2).heap[P]? = some (.cells #[v0,v1,v2] t (0,0)):=by
 rw [Qo (Qo (Qo h _ _) _ _) _ _]; rfl
theorem Qau {w:World} {P:Nat} {x0 x1 x2 x3 x4:Value} {t:TypeId} (h:w.heap[P]? = some (.cells #[x0,x1,x2,x3,x4] t (0,0))) (v0 v1 v2 v3 v4:Value) :
  (((((w.setCell ⟨P,0,none⟩ v0).setCell ⟨P,1,none⟩ v1).setCell ⟨P,2,none⟩ v2).setCell ⟨P,3,none⟩ v3).setCell ⟨P,4,none⟩ v4).heap[P]? = some (.cells #[v0,v1,v2,v3,v4] t (0,0)):=by
 rw [Qo (Qo (Qo (Qo (Qo h _ _) _ _) _ _) _ _) _ _]; rfl
theorem Q0i {w w':World} {R:Nat} (h:w.grownBy w' (some R)) (P o:Nat) (v:Value) (hP:w.heap.size≤P):w.grownBy (w'.setCell ⟨P,o,none⟩ v) (some R) :=
 ⟨h.os,h.tape,h.output,by rw [Q0l]; exact h.size,fun k hk hr=>(Qf (by omega) _ _).trans (h.block k hk hr)⟩
theorem Q1d {w w1:World} {R P N o:Nat} {b:ByteArray} {st:Except Int Nat} {A:Obj} {cs:Array Value} {t:TypeId} (v:Value) (hg:w.grownBy w1 (some R)) (hAt:At w1 R b st)
  (hN:w.heap[N]? = some A) (hP:w.heap[P]? = some (.cells cs t (0,0))) (hNR:N≠R) (hPR:P≠R) (hNP:N≠P) :
  At (w1.setCell ⟨P,o,none⟩ v) R b st∧(w1.setCell ⟨P,o,none⟩ v).heap[N]? = some A∧(w1.setCell ⟨P,o,none⟩ v).heap[P]? = some (.cells (cs.setIfInBounds o v) t (0,0))∧P < w1.heap.size∧w1.heap[P]? = some (.cells cs t (0,0)) :=
 ⟨hAt.keep (Qf (Ne.symm hPR) _ _),(Qf hNP _ _).trans (Q1S hg hN hNR),Qo (Q1S hg hP hPR) _ _,Qb (Q1S hg hP hPR),Q1S hg hP hPR⟩
set_option maxHeartbeats 1000000 in
theorem Q3W (R:Nat) (b:ByteArray) (st st1 st2 st3:Except Int Nat) (s:ByteArray) (ty cl:Nat) (w:World) (hb:b.size≤65535) (hR:At w R b st)
  (e1:Hid (Q2M b st=(st1,s))) (e2:Hid (Q0O b st1 2=(st2,ty))) (e3:Hid (Q0O b st2 2=(st3,cl))) :
  Calls Tryz.prog 148 #[.pointer (some ⟨R,0,none⟩)] w fun e w'=>e=.returned (.agg #[.string s,.int .i64 ty,.int .i64 cl])∧At w' R b st3∧w.grownBy w' (some R):=by
 have hRl:=hR.lt
 generalize hN:w.heap.size=N
 rw [hN] at hRl
 go_enter Tryz.func148,Tryz.ntmps148
 go_wp2_with fail
 have hA:=(Q2f w (.cells #[.string ⟨#[]⟩,.int .i64 0,.int .i64 0] 91) (.cells #[.string ⟨#[]⟩,.int .i64 0,.int .i64 0] 91)).1
 have hB:=(Q2f w (.cells #[.string ⟨#[]⟩,.int .i64 0,.int .i64 0] 91) (.cells #[.string ⟨#[]⟩,.int .i64 0,.int .i64 0] 91)).2
 have hG:=Q2V w (.cells #[.string ⟨#[]⟩,.int .i64 0,.int .i64 0] 91) (.cells #[.string ⟨#[]⟩,.int .i64 0,.int .i64 0] 91) (some R)
 have hR0:At ((w.alloc (.cells #[.string ⟨#[]⟩,.int .i64 0,.int .i64 0] 91)).alloc (.cells #[.string ⟨#[]⟩,.int .i64 0,.int .i64 0] 91)) R b st :=
  hR.keep ((Below.heap_alloc _ _ _ (by simp; omega)).trans (Below.heap_alloc _ _ _ (by omega)))
 rw [hN] at hA hB
 generalize (w.alloc (.cells #[.string ⟨#[]⟩,.int .i64 0,.int .i64 0] 91)).alloc (.cells #[.string ⟨#[]⟩,.int .i64 0,.int .i64 0] 91)=w0 at *
 have HA:=Qa hA
 have HB:=Qa hB
 clear hA hB hR
 refine (QfN R b st _ hb hR0).mono ?_
 rw [Q6 e1]
 rintro e w1 ⟨rfl,hAt1,hg1⟩
 obtain ⟨a1,b1,d1,l1,p1⟩:=Q1d (o:=0) (.string s) hg1 hAt1 (Q6 HA) (Q6 HB) (by omega) (by omega) (by omega)
 obtain ⟨⟨x0,x1,x2⟩,y0,y1,y2⟩:=Q4p p1
 have hG1:=Q0i (Qp hG hg1) (N+1) 0 (.string s) (by omega)
 clear p1 hR0 hG hg1 hAt1 HA HB e1
 go_wp2_with fail
 generalize w1.setCell ⟨N+1,0,none⟩ (.string s)=w2 at *
 clear x0 x1 x2 y0 y1 y2 l1 w1
 refine (Q2k R b st1 2 _ hb a1 (by omega) (by omega)).mono ?_
 rw [show (2:Int).toNat=2 from rfl,Q6 e2]
 rintro e w1 ⟨rfl,hAt1,hg1⟩
 obtain ⟨a2,b2,d2,l2,p2⟩:=Q1d (o:=1) (.int .i64 ty) hg1 hAt1 b1 d1 (by omega) (by omega) (by omega)
 obtain ⟨⟨x0,x1,x2⟩,y0,y1,y2⟩:=Q4p p2
 have hG2:=Q0i (Qp hG1 hg1) (N+1) 1 (.int .i64 ty) (by omega)
 clear a1 b1 d1 hG1 hg1 hAt1 e2 p2
 go_wp2_with fail
 generalize w1.setCell ⟨N+1,1,none⟩ (.int .i64 ty)=w3 at *
 clear x0 x1 x2 y0 y1 y2 l2 w1 w2
 refine (Q2k R b st2 2 _ hb a2 (by omega) (by omega)).mono ?_
 rw [show (2:Int).toNat=2 from rfl,Q6 e3]
 rintro e w1 ⟨rfl,hAt1,hg1⟩
 obtain ⟨a3,b3,d3,l3,p3⟩:=Q1d (o:=2) (.int .i64 cl) hg1 hAt1 b2 d2 (by omega) (by omega) (by omega)
 obtain ⟨⟨x0,x1,x2⟩,y0,y1,y2⟩:=Q4p p3
 have hG3:=Q0i (Qp hG2 hg1) (N+1) 2 (.int .i64 cl) (by omega)
 obtain ⟨⟨u0,u1,u2⟩,v0,v1,v2⟩:=Q4p b3
 obtain ⟨⟨q0,q1,q2⟩,o0,o1,o2⟩:=Q4p (show (w1.setCell ⟨N+1,2,none⟩ (.int .i64 cl)).heap[N+1]? = some (.cells #[.string s,.int .i64 ty,.int .i64 cl] 91 (0,0)) from d3)
 clear a2 b2 d2 hG2 hg1 hAt1 e3 p3
 go_wp2_with fail
 generalize w1.setCell ⟨N+1,2,none⟩ (.int .i64 cl)=wz at *
 obtain ⟨⟨g0,g1,g2⟩,_⟩:=Q4p (QlX b3 (.string s) (.int .i64 ty) (.int .i64 cl))
 refine bodyPost_ret (v:=.agg #[.string s,.int .i64 ty,.int .i64 cl]) (by simp [results,Tryz.results148,go_sem,g0,g1,g2]) rfl ⟨rfl,?_,?_⟩
 ·exact a3.keep ((Qf (by omega) _ _).trans ((Qf (by omega) _ _).trans (Qf (by omega) _ _)))
 ·exact Q0i (Q0i (Q0i hG3 N 0 _ (by omega)) N 1 _ (by omega)) N 2 _ (by omega)
set_option maxHeartbeats 1000000 in
theorem Qdy (R:Nat) (b:ByteArray) (st st1 st2 st3 st4 st5:Except Int Nat) (s d:ByteArray) (ty cl ttl:Nat) (w:World) (hb:b.size≤65535) (hR:At w R b st)
  (e1:Hid (Q2M b st=(st1,s))) (e2:Hid (Q0O b st1 2=(st2,ty))) (e3:Hid (Q0O b st2 2=(st3,cl))) (e4:Hid (Q0O b st3 4=(st4,ttl))) (e5:Hid (Q2y b st4 ty=(st5,d))) :
  Calls Tryz.prog 149 #[.pointer (some ⟨R,0,none⟩)] w fun e w'=>e=.returned (.agg #[.string s,.int .i64 ty,.int .i64 cl,.int .i64 ttl,.string d])∧At w' R b st5∧w.grownBy w' (some R):=by
 have hRl:=hR.lt
 generalize hN:w.heap.size=N
 rw [hN] at hRl
 go_enter Tryz.func149,Tryz.ntmps149
 go_wp2_with fail
 have hA:=(Q2f w (.cells #[.string ⟨#[]⟩,.int .i64 0,.int .i64 0,.int .i64 0,.string ⟨#[]⟩] 61) (.cells #[.string ⟨#[]⟩,.int .i64 0,.int .i64 0,.int .i64 0,.string ⟨#[]⟩] 61)).1
 have hB:=(Q2f w (.cells #[.string ⟨#[]⟩,.int .i64 0,.int .i64 0,.int .i64 0,.string ⟨#[]⟩] 61) (.cells #[.string ⟨#[]⟩,.int .i64 0,.int .i64 0,.int .i64 0,.string ⟨#[]⟩] 61)).2
 have hG:=Q2V w (.cells #[.string ⟨#[]⟩,.int .i64 0,.int .i64 0,.int .i64 0,.string ⟨#[]⟩] 61) (.cells #[.string ⟨#[]⟩,.int .i64 0,.int .i64 0,.int .i64 0,.string ⟨#[]⟩] 61) (some R)
 have hR0:At ((w.alloc (.cells #[.string ⟨#[]⟩,.int .i64 0,.int .i64 0,.int .i64 0,.string ⟨#[]⟩] 61)).alloc (.cells #[.string ⟨#[]⟩,.int .i64 0,.int .i64 0,.int .i64 0,.string ⟨#[]⟩] 61)) R b st :=
  hR.keep ((Below.heap_alloc _ _ _ (by simp; omega)).trans (Below.heap_alloc _ _ _ (by omega)))
 rw [hN] at hA hB
 generalize (w.alloc (.cells #[.string ⟨#[]⟩,.int .i64 0,.int .i64 0,.int .i64 0,.string ⟨#[]⟩] 61)).alloc (.cells #[.string ⟨#[]⟩,.int .i64 0,.int .i64 0,.int .i64 0,.string ⟨#[]⟩] 61)=w0 at *
 have HA:=Qa hA
 have HB:=Qa hB
 clear hA hB hR
 refine (QfN R b st _ hb hR0).mono ?_
 rw [Q6 e1]
 rintro e w1 ⟨rfl,hAt1,hg1⟩
 obtain ⟨a1,b1,d1,l1,p1⟩:=Q1d (o:=0) (.string s) hg1 hAt1 (Q6 HA) (Q6 HB) (by omega) (by omega) (by omega)
 obtain ⟨⟨x0,x1,x2,x3,x4⟩,y0,y1,y2,y3,y4⟩:=Q1a p1
 have hG1:=Q0i (Qp hG hg1) (N+1) 0 (.string s) (by omega)
 clear p1 hR0 hG hg1 hAt1 HA HB e1
 go_wp2_with fail
 generalize w1.setCell ⟨N+1,0,none⟩ (.string s)=w2 at *
 clear x0 x1 x2 x3 x4 y0 y1 y2 y3 y4 l1 w1
 refine (Q2k R b st1 2 _ hb a1 (by omega) (by omega)).mono ?_
 rw [show (2:Int).toNat=2 from rfl,Q6 e2]
 rintro e w1 ⟨rfl,hAt1,hg1⟩
 obtain ⟨a2,b2,d2,l2,p2⟩:=Q1d (o:=1) (.int .i64 ty) hg1 hAt1 b1 d1 (by omega) (by omega) (by omega)
 obtain ⟨⟨x0,x1,x2,x3,x4⟩,y0,y1,y2,y3,y4⟩:=Q1a p2
 have hG2:=Q0i (Qp hG1 hg1) (N+1) 1 (.int .i64 ty) (by omega)
 clear a1 b1 d1 hG1 hg1 hAt1 e2 p2
 go_wp2_with fail
 generalize w1.setCell ⟨N+1,1,none⟩ (.int .i64 ty)=w3 at *
 clear x0 x1 x2 x3 x4 y0 y1 y2 y3 y4 l2 w1 w2
 refine (Q2k R b st2 2 _ hb a2 (by omega) (by omega)).mono ?_
 rw [show (2:Int).toNat=2 from rfl,Q6 e3]
 rintro e w1 ⟨rfl,hAt1,hg1⟩
 obtain ⟨a3,b3,d3,l3,p3⟩:=Q1d (o:=2) (.int .i64 cl) hg1 hAt1 b2 d2 (by omega) (by omega) (by omega)
 obtain ⟨⟨x0,x1,x2,x3,x4⟩,y0,y1,y2,y3,y4⟩:=Q1a p3
 have hG3:=Q0i (Qp hG2 hg1) (N+1) 2 (.int .i64 cl) (by omega)
 clear a2 b2 d2 hG2 hg1 hAt1 e3 p3
 go_wp2_with fail
 generalize w1.setCell ⟨N+1,2,none⟩ (.int .i64 cl)=w4 at *
 clear x0 x1 x2 x3 x4 y0 y1 y2 y3 y4 l3 w1 w3
 refine (Q2k R b st3 4 _ hb a3 (by omega) (by omega)).mono ?_
 rw [show (4:Int).toNat=4 from rfl,Q6 e4]
 rintro e w1 ⟨rfl,hAt1,hg1⟩
 obtain ⟨a4,b4,d4,l4,p4⟩:=Q1d (o:=3) (.int .i64 ttl) hg1 hAt1 b3 d3 (by omega) (by omega) (by omega)
 obtain ⟨⟨x0,x1,x2,x3,x4⟩,y0,y1,y2,y3,y4⟩:=Q1a p4
 have hG4:=Q0i (Qp hG3 hg1) (N+1) 3 (.int .i64 ttl) (by omega)
 have d4':(w1.setCell ⟨N+1,3,none⟩ (.int .i64 ttl)).heap[N+1]? = some (.cells #[.string s,.int .i64 ty,.int .i64 cl,.int .i64 ttl,.string ⟨#[]⟩] 61 (0,0)):=d4
 obtain ⟨⟨u0,u1,u2,u3,u4⟩,v0,v1,v2,v3,v4⟩:=Q1a d4'
 clear a3 b3 d3 hG3 hg1 hAt1 e4 p4
 go_wp2_with fail
 generalize w1.setCell ⟨N+1,3,none⟩ (.int .i64 ttl)=w5 at *
 clear x0 x1 x2 x3 x4 y0 y1 y2 y3 y4 l4 w1 w4 u0 u1 u2 u3 u4 v0 v1 v2 v3 v4
 refine (Qk8 R b st4 ty _ hb a4 (by omega)).mono ?_
 rw [Int.toNat_natCast,Q6 e5]
 rintro e w1 ⟨rfl,hAt1,hg1⟩
 obtain ⟨a5,b5,d5,l5,p5⟩:=Q1d (o:=4) (.string d) hg1 hAt1 b4 d4' (by omega) (by omega) (by omega)
 obtain ⟨⟨x0,x1,x2,x3,x4⟩,y0,y1,y2,y3,y4⟩:=Q1a p5
 have hG5:=Q0i (Qp hG4 hg1) (N+1) 4 (.string d) (by omega)
 obtain ⟨⟨u0,u1,u2,u3,u4⟩,v0,v1,v2,v3,v4⟩:=Q1a b5
 obtain ⟨⟨q0,q1,q2,q3,q4⟩,o0,o1,o2,o3,o4⟩:=Q1a (show (w1.setCell ⟨N+1,4,none⟩ (.string d)).heap[N+1]? = some (.cells #[.string s,.int .i64 ty,.int .i64 cl,.int .i64 ttl,.string d] 61 (0,0)) from d5)
 clear a4 b4 d4 d4' hG4 hg1 hAt1 e5 p5
 go_wp2_with fail
 generalize w1.setCell ⟨N+1,4,none⟩ (.string d)=wz at *
 obtain ⟨⟨g0,g1,g2,g3,g4⟩,_⟩:=Q1a (Qau b5 (.string s) (.int .i64 ty) (.int .i64 cl) (.int .i64 ttl) (.string d))
 refine bodyPost_ret (v:=.agg #[.string s,.int .i64 ty,.int .i64 cl,.int .i64 ttl,.string d]) (by simp [results,Tryz.results149,go_sem,g0,g1,g2,g3,g4]) rfl ⟨rfl,?_,?_⟩
 ·exact a5.keep ((Qf (by omega) _ _).trans ((Qf (by omega) _ _).trans ((Qf (by omega) _ _).trans ((Qf (by omega) _ _).trans (Qf (by omega) _ _)))))
 ·exact Q0i (Q0i (Q0i (Q0i (Q0i hG5 N 0 _ (by omega)) N 1 _ (by omega)) N 2 _ (by omega)) N 3 _ (by omega)) N 4 _ (by omega)
theorem Tryz.info91:(Tryz.prog.info? 91).map (fun i=>(i.zero,i.size,i.bytes))=some (some (.agg #[.string ⟨#[]⟩,.int .i64 0,.int .i64 0]),3,32):=by kernel_rfl
theorem Tryz.info61:(Tryz.prog.info? 61).map (fun i=>(i.zero,i.size,i.bytes))=some (some (.agg #[.string ⟨#[]⟩,.int .i64 0,.int .i64 0,.int .i64 0,.string ⟨#[]⟩]),5,56):=by kernel_rfl
theorem Qdp (R:Nat) (b:ByteArray) (p:Nat) (q:Qs) (p':Nat) (w:World) (hb:b.size≤65535) (hR:At w R b (.ok p)) (hq:Hid (Q0j b p=.ok (q,p'))) :
  Calls Tryz.prog 148 #[.pointer (some ⟨R,0,none⟩)] w fun e w'=>e=.returned (.agg #[.string q.name,.int .i64 q.ty,.int .i64 q.cl])∧At w' R b (.ok p')∧w.grownBy w' (some R):=by
 have h:=Q6 hq
 unfold Q0j at h
 cases hx:Q05 b p with
 | error e=>rw [hx] at h; simp at h
 | ok z =>
  obtain ⟨s,t⟩:=z
  rw [hx] at h
  simp only at h
  by_cases c:b.size < p+t+4
  ·rw [if_pos c] at h; simp at h
  ·rw [if_neg c] at h
   simp only [Except.ok.injEq,Prod.mk.injEq] at h
   obtain ⟨rfl,rfl⟩:=h
   refine Q3W R b (.ok p) (.ok (p+t)) (.ok (p+t+2)) (.ok (p+t+4)) s (num b (p+t) 2) (num b (p+t+2) 2) w hb hR ?_ ?_ ?_
   ·show _=_; unfold Q2M; simp only; rw [hx]
   ·show _=_; unfold Q0O; simp only; rw [if_pos (by omega)]
   ·show _=_; unfold Q0O; simp only; rw [if_pos (by omega)]
theorem Qcd (R:Nat) (b:ByteArray) (p:Nat) (x:Int) (w:World) (hb:b.size≤65535) (hR:At w R b (.ok p)) (hq:Hid (Q0j b p=.error x)) :
  Calls Tryz.prog 148 #[.pointer (some ⟨R,0,none⟩)] w fun e w'=>∃ (s:ByteArray) (ty cl:Nat),e=.returned (.agg #[.string s,.int .i64 ty,.int .i64 cl])∧At w' R b (.error x)∧w.grownBy w' (some R):=by
 have h:=Q6 hq
 unfold Q0j at h
 cases hx:Q05 b p with
 | error e =>
  rw [hx] at h
  simp only [Except.error.injEq] at h
  subst h
  refine (Q3W R b (.ok p) (.error e) (.error e) (.error e) ⟨#[]⟩ 0 0 w hb hR ?_ rfl rfl).mono fun e' w' h=>⟨_,_,_,h⟩
  show _=_; unfold Q2M; simp only; rw [hx]
 | ok z =>
  obtain ⟨s,t⟩:=z
  rw [hx] at h
  simp only at h
  by_cases c:b.size < p+t+4
  ·rw [if_pos c] at h
   simp only [Except.error.injEq] at h
   subst h
   by_cases c2:p+t+2≤b.size
   ·refine (Q3W R b (.ok p) (.ok (p+t)) (.ok (p+t+2)) (.error 2) s (num b (p+t) 2) 0 w hb hR ?_ ?_ ?_).mono fun e' w' h=>⟨_,_,_,h⟩
    ·show _=_; unfold Q2M; simp only; rw [hx]
    ·show _=_; unfold Q0O; simp only; rw [if_pos c2]
    ·show _=_; unfold Q0O; simp only; rw [if_neg (by omega)]
   ·refine (Q3W R b (.ok p) (.ok (p+t)) (.error 2) (.error 2) s 0 0 w hb hR ?_ ?_ rfl).mono fun e' w' h=>⟨_,_,_,h⟩
    ·show _=_; unfold Q2M; simp only; rw [hx]
    ·show _=_; unfold Q0O; simp only; rw [if_neg c2]
  ·rw [if_neg c] at h; simp at h
def Qlb (b:ByteArray) (p:Nat) (s:ByteArray) (ty cl:Nat) (st:Except Int Nat):Prop :=
 (∃ q p',Q0j b p=.ok (q,p')∧st=.ok p'∧s=q.name∧ty=q.ty∧cl=q.cl)∨(∃ x,Q0j b p=.error x∧st=.error x)
theorem QaU (R:Nat) (b:ByteArray) (p:Nat) (w:World) (hb:b.size≤65535) (hR:At w R b (.ok p)) :
  Calls Tryz.prog 148 #[.pointer (some ⟨R,0,none⟩)] w fun e w'=>∃ (s:ByteArray) (ty cl:Nat) (st:Except Int Nat),e=.returned (.agg #[.string s,.int .i64 ty,.int .i64 cl])∧At w' R b st∧w.grownBy w' (some R)∧Qlb b p s ty cl st:=by
 cases hq:Q0j b p with
 | ok z =>
  obtain ⟨q,p'⟩:=z
  exact (Qdp R b p q p' w hb hR hq).mono fun e w' ⟨h1,h2,h3⟩=>⟨_,_,_,_,h1,h2,h3,.inl ⟨q,p',hq,rfl,rfl,rfl,rfl⟩⟩
 | error x=>exact (Qcd R b p x w hb hR hq).mono fun e w' ⟨s,ty,cl,h1,h2,h3⟩=>⟨_,_,_,_,h1,h2,h3,.inr ⟨x,hq,rfl⟩⟩
def Q1M:List Qs→List Value
 | []=>[]
 | q :: l=>.string q.name :: .int .i64 q.ty :: .int .i64 q.cl :: Q1M l
theorem Q6P (l m:List Qs):Q1M (l++m)=Q1M l++Q1M m:=by
 induction l with
 | nil=>rfl
 | cons q l ih=>simp [Q1M,ih]
theorem At.grown {w w':World} {R:Nat} {b:ByteArray} {st:Except Int Nat} {row:Option Nat} (h:At w R b st) (hg:w.grownBy w' row) (hr:row≠some R):At w' R b st :=
 h.keep (hg.block R h.lt (fun e=>hr e.symm))
theorem Q4Z {w w1 w2:World} {R:Nat} {row:Option Nat} (h:w.grownBy w1 (some R)) (hg:w1.grownBy w2 row) (hr:∀ k,row=some k→w.heap.size≤k):w.grownBy w2 (some R) :=
 ⟨hg.os.trans h.os,hg.tape.trans h.tape,hg.output.trans h.output,Nat.le_trans h.size hg.size,fun k hk hne =>
  (hg.block k (Nat.lt_of_lt_of_le hk h.size) (fun e=>by have:=hr k e.symm; omega)).trans (h.block k hk hne)⟩
def Qh7 (b:ByteArray) (st:Except Int Nat) (n:Nat):Except Int (List Qs × Nat) :=
 match st with
 | .ok p=>Q1N b p n
 | .error x=>.error x
theorem Q3t (w:World) (B:Nat) (x y z:Value) (t:TypeId) (h:w.heap.size=B):∀ j u,[x,y,z][j]? = some u→(w.alloc (.cells #[x,y,z] t)).cell? ((⟨B,0,none⟩:Addr).add j)=some u:=by
 subst h
 exact World.news_of_block (heap_alloc_new w _)
theorem Q0E (w:World) (B:Nat) (x y z s r:Value) (t:TypeId) (h:w.heap.size=B):∀ j u,[x,y,z,s,r][j]? = some u→(w.alloc (.cells #[x,y,z,s,r] t)).cell? ((⟨B,0,none⟩:Addr).add j)=some u:=by
 subst h
 exact World.news_of_block (heap_alloc_new w _)
theorem Qkz {w:World} {N:Nat} {e:TypeId} {size:Nat} {v:Value} {n:Nat} {xs:List Value} {R:Nat} (h:w.ownsRow N e size v n xs) (hR:R < N):v.ownBlock≠some R:=by
 intro hv
 have:=(h.lt R hv).1
 omega
theorem Q0p {w w1:World} {N:Nat} {e:TypeId} {size:Nat} {v:Value} {n:Nat} {xs:List Value} {R:Nat} (h:w.ownsRow N e size v n xs) (hg:w.grownBy w1 (some R)) (hR:R < N):w1.ownsRow N e size v n xs :=
 h.kept hg (.inr (Qkz h hR))
def Qe3 (R:Nat) (b:ByteArray) (w':World) (m:Nat) (cs:List Value) (res:Except Int (List Qs × Nat)):Prop :=
 match res with
 | .ok (l,p)=>At w' R b (.ok p)∧m=l.length∧cs=Q1M l
 | .error x=>At w' R b (.error x)
def Qe2 (R N:Nat) (b:ByteArray) (w:World) (res:Except Int (List Qs × Nat)) (e:Ending) (w':World):Prop :=
 w.grownBy w' (some R)∧∃ v m cs,e=.returned v∧w'.ownsRow N 91 3 v m cs∧Qe3 R b w' m cs res
set_option maxHeartbeats 2000000 in
theorem Qce (R:Nat) (b:ByteArray) (k n:Nat) (w:World) (hb:b.size≤65535) (hR:At w R b (.ok k)) (hn:n≤65535) :
  Calls Tryz.prog 113 #[.pointer (some ⟨R,0,none⟩),.int .i64 n] w fun e w'=>Qe2 R w.heap.size b w (Q1N b k n) e w':=by
 have hkb:k≤b.size:=hR.1
 have hRl:=hR.lt
 generalize hN:w.heap.size=N
 rw [hN] at hRl
 obtain ⟨i0,hi,hz0,hz1,hz2⟩:=info_parts Tryz.info91
 have Hi:=Qa hi
 have Hz0:=Qa hz0
 have Hz1:=Qa hz1
 have Hz2:=Qa hz2
 clear hi hz0 hz1 hz2
 have HR:=Qa hR
 clear hR
 go_enter Tryz.func113,Tryz.ntmps113
 go_wp2_with fail
 go_loopg [5,6] (n+1) (fun g v i w'=>∃ (j:Nat) (cs:List Value) (st:Except Int Nat),i=.int .i64 j∧j≤n∧g=n+1 - j∧Hid (w'.ownsRow N 91 3 v j cs)∧Hid (At w' R b st)∧Hid (w.grownBy w' (some R))∧((∃ l p,Hid (st=.ok p)∧Hid (Q1N b k j=.ok (l,p))∧Hid (cs=Q1M l))∨(∃ x,Hid (st=.error x)∧Hid (Q1N b k j=.error x))))
 case atStart=>exact ⟨0,[],.ok k,rfl,Nat.zero_le _,by omega,World.ownsRow_nil _ _ _ _,HR,Q3d _ _,.inl ⟨[],k,rfl,rfl,rfl⟩⟩
 case round =>
  obtain ⟨j,cs,st,rfl,hj,hg,hown,hAt,hgr,hcase⟩:=hrel
  have hAtf:=(Q6 hAt).fail
  obtain ⟨af,az⟩:=hAtf
  rcases hcase with ⟨l,p,hst,hqs,hcs⟩ | ⟨x,hst,hqs⟩
  ·have h1:=Q6 hst
   subst h1
   have af':wr.cell? ⟨R,2,none⟩=some (.int .i64 0):=af
   clear af
   by_cases c:j < n
   ·go_wp2_with fail
    refine (QaU R b p _ hb (Q6 hAt)).mono ?_
    rintro e w1 ⟨s,ty,cl,st',rfl,hAt1,hg1,hnext⟩
    have hown1:=Q0p (Q6 hown) hg1 hRl
    have hgr1:=Qa (Qp (Q6 hgr) hg1)
    have hle:N≤w1.heap.size:=by have:=(Q6 hgr1).size; omega
    have hA1:=Qa hAt1
    have hO1:=Qa hown1
    have hNx:=Qa hnext
    clear hAt1 hg1 hown1 hown hAt hgr af' az hnext
    go_wp2_with (at_builtin; refine wpList_append_lies _ rfl _ _ 30 rfl N 91 i0 (.agg #[.string ⟨#[]⟩,.int .i64 0,.int .i64 0]) 3 32 Tryz.underlying30 (Q6 Hi) (Q6 Hz0) (Q6 Hz1) (Q6 Hz2) rfl (by decide) u5 j cs (by rfl) (((Q6 hO1).alloc _).alloc _) ⟨w1.heap.size+1,0,none⟩ 1 1 [.string s,.int .i64 ty,.int .i64 cl] (by rfl) rfl (Q3t _ _ _ _ _ _ (by simp)) (fun x hx=>by simp at hx; rcases hx with rfl | rfl | rfl <;> rfl) (by decide) (by unfold maxLen; omega) (by omega) (by simp; omega) (w1.heap.size+2) (by simp) ?_; intro g cap w3 hown3 hgrow3 hat3 hlt3)
    go_roundg (n+1 - (j+1))
    case measure=>omega
    case rel =>
     have hrow:∀ r,u5.ownBlock=some r→N≤r:=fun r hr=>((Q6 hO1).lt r hr).1
     have hgA:=Q2V w1 (.cells #[.string s,.int .i64 ty,.int .i64 cl] 91) (.cells #[.string s,.int .i64 ty,.int .i64 cl] 91)
     refine ⟨j+1,cs++[.string s,.int .i64 ty,.int .i64 cl],st',by go_num,by omega,rfl,Qa hown3,?_,?_,?_⟩
     ·exact ((Q6 hA1).grown (hgA none) (by simp)).grown hgrow3 (fun e=>by have:=hrow R e; omega)
     ·exact Q4Z (Q4Z (Q6 hgr1) (hgA none) (fun k h=>by cases h)) hgrow3 (fun r hr=>by rw [hN]; exact hrow r hr)
     ·rcases Q6 hNx with ⟨q,p',h1,h2,rfl,rfl,rfl⟩ | ⟨x,h1,h2⟩
      ·refine .inl ⟨l++[q],p',h2,?_,?_⟩
       ·show _=_
        rw [Q1N,Q6 hqs]; simp only; rw [h1]
       ·show _=_
        rw [Q6 hcs,Q6P]; rfl
      ·refine .inr ⟨x,h2,?_⟩
       show _=_
       rw [Q1N,Q6 hqs]; simp only; rw [h1]
   ·have hjn:j=n:=by omega
    subst hjn
    have hP:Qe3 R b wr j cs (Q1N b k j):=by
     rw [Q6 hqs]
     exact ⟨Q6 hAt,(Q8U b k hkb j l p (Q6 hqs)).1.symm,Q6 hcs⟩
    have HP:=Qa hP
    clear hP
    go_wp2_with fail
    go_ret
    unfold Qe2
    exact ⟨Q6 hgr,_,j,cs,rfl,Q6 hown,Q6 HP⟩
  ·have h1:=Q6 hst
   subst h1
   have af':wr.cell? ⟨R,2,none⟩=some (.int .i64 x):=af
   have hx0:(x == 0)=false:=beq_eq_false_iff_ne.2 (Q6 hAt).failNe
   clear af
   have hP:Qe3 R b wr j cs (Q1N b k n):=by
    rw [Qdo b k j x (Q6 hqs) n hj]
    exact Q6 hAt
   have HP:=Qa hP
   clear hP
   by_cases c:j < n
   all_goals
    go_wp2_with fail
    go_ret
    unfold Qe2
    exact ⟨Q6 hgr,_,j,cs,rfl,Q6 hown,Q6 HP⟩
set_option maxHeartbeats 400000 in
theorem QaV (R:Nat) (b:ByteArray) (x:Int) (n:Nat) (w:World) (hR:At w R b (.error x)) :
  Calls Tryz.prog 113 #[.pointer (some ⟨R,0,none⟩),.int .i64 n] w fun e w'=>e=.returned (.slice none 0 0)∧w'=w:=by
 obtain ⟨af,az⟩:=hR.fail
 have af':w.cell? ⟨R,2,none⟩=some (.int .i64 x):=af
 have hx0:(x == 0)=false:=beq_eq_false_iff_ne.2 hR.failNe
 clear af hR
 by_cases c:(0:Int) < n
 all_goals
  go_enter Tryz.func113,Tryz.ntmps113
  go_wp2_with fail
  refine wp_loop_rounds 1 ?_; rw [rounds_succ]
  go_wp2_with fail
  go_ret
  exact ⟨rfl,rfl⟩
def Q6R (b:ByteArray) (st:Except Int Nat):Except Int Nat × Rc :=
 let a1:=Q2M b st
 let a2:=Q0O b a1.1 2
 let a3:=Q0O b a2.1 2
 let a4:=Q0O b a3.1 4
 let a5:=Q2y b a4.1 a2.2
 (a5.1,⟨a1.2,a2.2,a3.2,a4.2,a5.2⟩)
theorem Qh9 (R:Nat) (b:ByteArray) (st:Except Int Nat) (w:World) (hb:b.size≤65535) (hR:At w R b st) :
  Calls Tryz.prog 149 #[.pointer (some ⟨R,0,none⟩)] w fun e w'=>e=.returned (.agg #[.string (Q6R b st).2.name,.int .i64 (Q6R b st).2.ty,.int .i64 (Q6R b st).2.cl,.int .i64 (Q6R b st).2.ttl,.string (Q6R b st).2.data])∧At w' R b (Q6R b st).1∧w.grownBy w' (some R) :=
 Qdy R b st _ _ _ _ _ _ _ _ _ _ w hb hR rfl rfl rfl rfl rfl
theorem Q34 (b:ByteArray) (p n:Nat) (h:p+n≤b.size):Q0O b (.ok p) n=(.ok (p+n),num b p n):=by unfold Q0O; simp only; rw [if_pos h]
theorem Q7M (b:ByteArray) (p n:Nat) (h:¬ p+n≤b.size):Q0O b (.ok p) n=(.error 2,0):=by unfold Q0O; simp only; rw [if_neg h]
theorem Q8p (b:ByteArray) (x:Int) (n:Nat):Q0O b (.error x) n=(.error x,0):=rfl
theorem Q5k (b:ByteArray) (x:Int) (n:Nat):Q2y b (.error x) n=(.error x,⟨#[]⟩):=rfl
theorem QeX (b:ByteArray) (p:Nat):match Q0U b p with
  | .ok (x,p')=>Q6R b (.ok p)=(.ok p',x)
  | .error e=>(Q6R b (.ok p)).1=.error e:=by
 unfold Q0U Q6R
 cases hx:Q05 b p with
 | error e =>
  have e1:Q2M b (.ok p)=(.error e,⟨#[]⟩):=by unfold Q2M; simp only; rw [hx]
  simp only [e1,Q8p,Q5k]
 | ok z =>
  obtain ⟨s,t⟩:=z
  have e1:Q2M b (.ok p)=(.ok (p+t),s):=by unfold Q2M; simp only; rw [hx]
  simp only [e1]
  by_cases c2:p+t+2≤b.size
  ·rw [Q34 b (p+t) 2 c2]
   by_cases c3:p+t+2+2≤b.size
   ·rw [Q34 b (p+t+2) 2 c3]
    by_cases c4:p+t+2+2+4≤b.size
    ·rw [Q34 b (p+t+2+2) 4 c4]
     by_cases c5:b.size < p+t+10
     ·rw [if_pos c5]
      have e5:Q2y b (.ok (p+t+2+2+4)) (num b (p+t) 2)=(.error 2,⟨#[]⟩):=by unfold Q2y; simp only; rw [if_pos (by omega)]
      simp only [e5]
     ·rw [if_neg c5]
      by_cases c6:b.size < p+t+10+num b (p+t+8) 2
      ·rw [if_pos c6]
       have e5:Q2y b (.ok (p+t+2+2+4)) (num b (p+t) 2)=(.error 2,⟨#[]⟩):=by unfold Q2y; simp only; rw [if_pos (.inr c6)]
       simp only [e5]
      ·rw [if_neg c6]
       have hn:¬ (b.size < p+t+2+2+4+2∨b.size < p+t+2+2+4+2+num b (p+t+2+2+4) 2):=by
        intro h
        rcases h with h | h
        ·omega
        ·exact c6 h
       cases hd:Q1n b (p+t+10) (num b (p+t+8) 2) (num b (p+t) 2) with
       | none =>
        have hd':Q1n b (p+t+2+2+4+2) (num b (p+t+2+2+4) 2) (num b (p+t) 2)=none:=hd
        have e5:Q2y b (.ok (p+t+2+2+4)) (num b (p+t) 2)=(.error 4,⟨#[]⟩):=by unfold Q2y; simp only; rw [if_neg hn,hd']
        simp only [e5]
       | some d =>
        have hd':Q1n b (p+t+2+2+4+2) (num b (p+t+2+2+4) 2) (num b (p+t) 2)=some d:=hd
        have e5:Q2y b (.ok (p+t+2+2+4)) (num b (p+t) 2)=(.ok (p+t+10+num b (p+t+8) 2),d):=by unfold Q2y; simp only; rw [if_neg hn,hd']
        simp only [e5]
    ·rw [Q7M b (p+t+2+2) 4 c4]
     rw [if_pos (by omega)]
     simp only [Q5k]
   ·rw [Q7M b (p+t+2) 2 c3,if_pos (by omega)]
    simp only [Q8p,Q5k]
  ·rw [Q7M b (p+t) 2 c2,if_pos (by omega)]
   simp only [Q8p,Q5k]
def Q0e:List Rc→List Value
 | []=>[]
 | x :: l=>.string x.name :: .int .i64 x.ty :: .int .i64 x.cl :: .int .i64 x.ttl :: .string x.data :: Q0e l
theorem Q6Q (l m:List Rc):Q0e (l++m)=Q0e l++Q0e m:=by
 induction l with
 | nil=>rfl
 | cons q l ih=>simp [Q0e,ih]
def Q6L (b:ByteArray) (part k j:Nat) (cs:List Value) (st:Except Int Nat) (mo:Bool):Prop :=
 (∃ l p,st=.ok p∧Q0V b part k j=.ok (l,p)∧cs=Q0e l∧mo=(part == 2 && !(l.any (fun y=>y.ty == 41))))∨(∃ x,st=.error x∧Q0V b part k j=.error x)
theorem Qh8 (b:ByteArray) (part k j:Nat) (cs:List Value) (mo:Bool) (l:List Rc) (p:Nat) (h:Q0V b part k j=.ok (l,p)) (x:Int) (hx:Q0U b p=.error x):Q6L b part k (j+1) cs (.error x) mo :=
 .inr ⟨x,rfl,by rw [Q0V,h]; simp only; rw [hx]⟩
theorem QbA (b:ByteArray) (part k j:Nat) (cs:List Value) (mo:Bool) (l:List Rc) (p:Nat) (h:Q0V b part k j=.ok (l,p)) (x:Rc) (p':Nat) (hx:Q0U b p=.ok (x,p')) (hm:Q65 l x part=true):Q6L b part k (j+1) cs (.error 5) mo :=
 .inr ⟨5,rfl,by rw [Q0V,h]; simp only; rw [hx]; simp only; rw [if_pos hm]⟩
theorem Qab (b:ByteArray) (part k j:Nat) (mo:Bool) (l:List Rc) (p:Nat) (h:Q0V b part k j=.ok (l,p)) (x:Rc) (p':Nat) (hx:Q0U b p=.ok (x,p')) (hm:Q65 l x part=false)
  (hmo:mo=(part == 2 && !((l++[x]).any (fun y=>y.ty == 41)))):Q6L b part k (j+1) (Q0e l++Q0e [x]) (.ok p') mo :=
 .inl ⟨l++[x],p',rfl,by rw [Q0V,h]; simp only; rw [hx]; simp only; rw [if_neg (by rw [hm]; decide)],(Q6Q l [x]).symm,hmo⟩
def Qe5 (R:Nat) (b:ByteArray) (w':World) (m:Nat) (cs:List Value) (res:Except Int (List Rc × Nat)):Prop :=
 match res with
 | .ok (l,p)=>At w' R b (.ok p)∧m=l.length∧cs=Q0e l
 | .error x=>At w' R b (.error x)
def Qe4 (R N:Nat) (b:ByteArray) (w:World) (res:Except Int (List Rc × Nat)) (e:Ending) (w':World):Prop :=
 w.grownBy w' (some R)∧∃ v m cs,e=.returned v∧w'.ownsRow N 61 5 v m cs∧Qe5 R b w' m cs res
theorem QkH (b:ByteArray) (part k j:Nat) (l:List Rc) (p:Nat) (mo:Bool) (st':Except Int Nat) (x:Rc) (hqs:Q0V b part k j=.ok (l,p)) (hmo:mo=(part == 2 && !(l.any (fun y=>y.ty == 41))))
  (hst:∀ e,st'=.error e→e≠0)
  (hsp:match Q0U b p with
   | .ok (y,p')=>(st',x)=(.ok p',y)
   | .error e=>st'=.error e) :
  (∃ e0,st'=.error e0∧(e0 == 0)=false∧Q6L b part k (j+1) (Q0e l++Q0e [x]) (.error e0) mo) ∨
  (∃ p',st'=.ok p'∧((x.ty:Int) == 41)=true∧mo=false∧Q6L b part k (j+1) (Q0e l++Q0e [x]) (.error 5) false) ∨
  (∃ p',st'=.ok p'∧((x.ty:Int) == 41)=true∧mo=true∧(x.name.toList == [0])=true∧Q6L b part k (j+1) (Q0e l++Q0e [x]) (.ok p') false) ∨
  (∃ p',st'=.ok p'∧((x.ty:Int) == 41)=true∧mo=true∧(x.name.toList == [0])=false∧Q6L b part k (j+1) (Q0e l++Q0e [x]) (.error 5) false) ∨
  (∃ p',st'=.ok p'∧((x.ty:Int) == 41)=false∧Q6L b part k (j+1) (Q0e l++Q0e [x]) (.ok p') mo):=by
 cases hrc:Q0U b p with
 | error e0 =>
  rw [hrc] at hsp
  simp only at hsp
  exact .inl ⟨e0,hsp,beq_eq_false_iff_ne.2 (hst e0 hsp),Qh8 b part k j _ mo l p hqs e0 hrc⟩
 | ok z =>
  obtain ⟨y,p'⟩:=z
  rw [hrc] at hsp
  simp only [Prod.mk.injEq] at hsp
  obtain ⟨rfl,rfl⟩:=hsp
  refine .inr ?_
  by_cases d41:x.ty=41
  ·have t41:((x.ty:Int) == 41)=true:=by rw [beq_iff_eq]; omega
   cases hc:mo with
   | false =>
    refine .inl ⟨p',rfl,t41,rfl,QbA b part k j _ false l p hqs x p' hrc ?_⟩
    rw [hc] at hmo
    unfold Q65
    rw [d41]
    cases h2:(part == 2) with
    | false=>simp [bne,h2]
    | true =>
     cases h4:(l.any fun y=>y.ty == 41) with
     | true=>rfl
     | false=>rw [h2,h4] at hmo; exact absurd hmo (by decide)
   | true =>
    rw [hc] at hmo
    have hp2:(part == 2)=true:=by
     cases h2:(part == 2) with
     | true=>rfl
     | false=>rw [h2,Bool.false_and] at hmo; exact absurd hmo (by decide)
    have hany:(l.any fun y=>y.ty == 41)=false:=by
     cases h4:(l.any fun y=>y.ty == 41) with
     | false=>rfl
     | true=>rw [h4,hp2] at hmo; exact absurd hmo (by decide)
    have hbe:=Q1C x.name ⟨#[0]⟩
    have h0:(⟨#[0]⟩:ByteArray).toList=[0]:=by rw [ByteArray.toList_eq]
    rw [h0] at hbe
    by_cases hnm:x.name=⟨#[0]⟩
    ·refine .inr (.inl ⟨p',rfl,t41,rfl,by rw [hbe]; simp [hnm],Qab b part k j false l p hqs x p' hrc ?_ (by simp [d41])⟩)
     unfold Q65
     rw [d41,hany,hnm]
     simp [bne,hp2]
    ·refine .inr (.inr (.inl ⟨p',rfl,t41,rfl,by rw [hbe]; simp [hnm],QbA b part k j _ false l p hqs x p' hrc ?_⟩))
     unfold Q65
     rw [d41]
     simp [hnm]
  ·have hb41:(x.ty == 41)=false:=beq_eq_false_iff_ne.2 d41
   refine .inr (.inr (.inr ⟨p',rfl,beq_eq_false_iff_ne.2 (by omega),Qab b part k j mo l p hqs x p' hrc (by unfold Q65; rw [hb41]; rfl) ?_⟩))
   rw [hmo,List.any_append]
   simp [hb41]
structure Qma (R N H:Nat) (b:ByteArray) (w X:World) (v:Value) (j:Nat) (cs:List Value) (st:Except Int Nat):Prop where
 at_:At X R b st
 own:X.ownsRow N 61 5 v j cs
 grown:w.grownBy X (some R)
 size:X.heap.size=H
theorem Qhn {R N:Nat} {b:ByteArray} {w w1:World} {v:Value} {j:Nat} {cs:List Value} {st:Except Int Nat} (hA:At w1 R b st) (hO:w1.ownsRow N 61 5 v j cs) (hG:w.grownBy w1 (some R)) :
  Qma R N w1.heap.size b w w1 v j cs st:=⟨hA,hO,hG,rfl⟩
theorem Qhm {R N:Nat} {b:ByteArray} {w w1:World} {v:Value} {j:Nat} {cs:List Value} {p:Nat} {part k j':Nat} {cs':List Value} {mo:Bool} (_:Q6L b part k j' cs' (.error 5) mo) (hA:At w1 R b (.ok p)) (hO:w1.ownsRow N 61 5 v j cs) (hG:w.grownBy w1 (some R)) (hR:R < N) :
  Qma R N w1.heap.size b w (w1.setCell ⟨R,2,none⟩ (.int .i64 5)) v j cs (.error 5) :=
 ⟨⟨by decide,p,Q7T hA.2 5⟩,Q0p hO (Ql _ _ _ _) hR,Qp hG (Ql _ _ _ _),Q0l _ _ _⟩
set_option maxHeartbeats 2000000 in
theorem QeY (R:Nat) (b:ByteArray) (part k n:Nat) (ex:Bool) (w:World) (hb:b.size≤65535) (hR:At w R b (.ok k)) (hn:n≤65535) (hex:Hid (ex=(part == 2))) :
  Calls Tryz.prog 114 #[.pointer (some ⟨R,0,none⟩),.int .i64 n,.bool ex] w fun e w'=>Qe4 R w.heap.size b w (Q0V b part k n) e w':=by
 have hkb:k≤b.size:=hR.1
 have hRl:=hR.lt
 generalize hN:w.heap.size=N
 rw [hN] at hRl
 obtain ⟨i0,hi,hz0,hz1,hz2⟩:=info_parts Tryz.info61
 have Hi:=Qa hi
 have Hz0:=Qa hz0
 have Hz1:=Qa hz1
 have Hz2:=Qa hz2
 clear hi hz0 hz1 hz2
 have HR:=Qa hR
 clear hR
 go_enter Tryz.func114,Tryz.ntmps114
 go_wp2_with fail
 go_loopg [7,8,9] (n+1) (fun g v mv i w'=>∃ (j:Nat) (cs:List Value) (st:Except Int Nat) (mo:Bool),i=.int .i64 j∧mv=.bool mo∧j≤n∧g=n+1 - j∧Hid (w'.ownsRow N 61 5 v j cs)∧Hid (At w' R b st)∧Hid (w.grownBy w' (some R))∧Hid (Q6L b part k j cs st mo))
 case atStart=>exact ⟨0,[],.ok k,ex,rfl,rfl,Nat.zero_le _,by omega,World.ownsRow_nil _ _ _ _,HR,Q3d _ _,.inl ⟨[],k,rfl,rfl,rfl,by rw [Q6 hex]; simp⟩⟩
 case round =>
  obtain ⟨j,cs,st,mo,rfl,rfl,hj,hg,hown,hAt,hgr,hinv⟩:=hrel
  obtain ⟨af,az⟩:=(Q6 hAt).fail
  rcases Q6 hinv with ⟨l,p,rfl,hqs,rfl,hmo⟩ | ⟨x,rfl,hqs⟩
  ·have af':wr.cell? ⟨R,2,none⟩=some (.int .i64 0):=af
   clear af hinv
   have Hqs:=Qa hqs
   have Hmo:=Qa hmo
   clear hqs hmo
   by_cases c:j < n
   ·go_wp2_with fail
    have hsp:=QeX b p
    have hcall:=Qh9 R b (.ok p) wr hb (Q6 hAt)
    generalize hrs:Q6R b (.ok p)=rs at hsp hcall
    obtain ⟨st',x⟩:=rs
    simp only at hsp hcall
    refine hcall.mono ?_
    clear hcall hrs
    rintro e w1 ⟨rfl,hAt1,hg1⟩
    have hown1:=Q0p (Q6 hown) hg1 hRl
    have hgr1:=Qa (Qp (Q6 hgr) hg1)
    have hle:N≤w1.heap.size:=by have:=(Q6 hgr1).size; omega
    have hA1:=Qa hAt1
    have hO1:=Qa hown1
    obtain ⟨g2,g3⟩:=hAt1.fail
    have hR1:=hAt1.lt
    clear hAt1 hg1 hown1 hown hAt hgr af' az
    have hrow:∀ r,u7.ownBlock=some r→N≤r:=fun r hr=>((Q6 hO1).lt r hr).1
    have Hrow:=Qa hrow
    clear hrow
    have five:=QkH b part k j l p mo st' x (Q6 Hqs) (Q6 Hmo) (fun e he=>by have:=Q6 hA1; rw [he] at this; exact this.failNe) hsp
    clear hsp Hqs Hmo
    rcases five with ⟨e0,rfl,f1,hv⟩ | ⟨p',rfl,f1,rfl,hv⟩ | ⟨p',rfl,f1,rfl,f2,hv⟩ | ⟨p',rfl,f1,rfl,f2,hv⟩ | ⟨p',rfl,f1,hv⟩
    all_goals
     first
      | have ht:=Qa (Qhm hv (Q6 hA1) (Q6 hO1) (Q6 hgr1) hRl)
      | have ht:=Qa (Qhn (Q6 hA1) (Q6 hO1) (Q6 hgr1))
     have hinv2:=Qa hv
     clear hv
     simp only [Qi8] at g2
     go_upto_region 11 with fail
     go_wp2_with (at_builtin; refine wpList_append_lies _ rfl _ _ 27 rfl N 61 i0 (.agg #[.string ⟨#[]⟩,.int .i64 0,.int .i64 0,.int .i64 0,.string ⟨#[]⟩]) 5 56 Tryz.underlying27 (Q6 Hi) (Q6 Hz0) (Q6 Hz1) (Q6 Hz2) rfl (by decide) u7 j (Q0e l) (by rfl) (((Q6 ht).own.alloc _).alloc _) ⟨w1.heap.size+1,0,none⟩ 1 1 [.string x.name,.int .i64 x.ty,.int .i64 x.cl,.int .i64 x.ttl,.string x.data] (by rfl) rfl (Q0E _ _ _ _ _ _ _ _ (by simp [(Q6 ht).size])) (fun x hx=>by simp at hx; rcases hx with rfl | rfl | rfl | rfl | rfl <;> rfl) (by decide) (by unfold maxLen; omega) (by omega) (by simp [(Q6 ht).size]; omega) (w1.heap.size+2) (by simp [(Q6 ht).size]) ?_; intro g cap w3 hown3 hgrow3 hat3 hlt3)
     go_roundg (n+1 - (j+1))
     case measure=>omega
     case rel =>
      refine ⟨j+1,Q0e l++Q0e [x],_,_,by go_num,rfl,by omega,rfl,Qa hown3,?_,?_,hinv2⟩
      ·exact ((Q6 ht).at_.grown (Q2V _ _ _ none) (by simp)).grown hgrow3 (fun e=>by have:=Q6 Hrow R e; omega)
      ·exact Q4Z (Q4Z (Q6 ht).grown (Q2V _ _ _ none) (fun k h=>by cases h)) hgrow3 (fun r hr=>by rw [hN]; exact Q6 Hrow r hr)
   ·have hjn:j=n:=by omega
    subst hjn
    have hP:Qe5 R b wr j (Q0e l) (Q0V b part k j):=by
     rw [Q6 Hqs]
     exact ⟨Q6 hAt,(Q4J b part k hkb j l p (Q6 Hqs)).1.symm,rfl⟩
    have HP:=Qa hP
    clear hP
    go_wp2_with fail
    go_ret
    unfold Qe4
    exact ⟨Q6 hgr,_,j,_,rfl,Q6 hown,Q6 HP⟩
  ·have af':wr.cell? ⟨R,2,none⟩=some (.int .i64 x):=af
   have hx0:(x == 0)=false:=beq_eq_false_iff_ne.2 (Q6 hAt).failNe
   clear af hinv
   have hP:Qe5 R b wr j cs (Q0V b part k n):=by
    rw [Qdu b part k j x hqs n hj]
    exact Q6 hAt
   have HP:=Qa hP
   clear hP hqs
   by_cases c:j < n
   all_goals
    go_wp2_with fail
    go_ret
    unfold Qe4
    exact ⟨Q6 hgr,_,j,cs,rfl,Q6 hown,Q6 HP⟩
set_option maxHeartbeats 400000 in
theorem Qdz (R:Nat) (b:ByteArray) (x:Int) (n:Nat) (ex:Bool) (w:World) (hR:At w R b (.error x)) :
  Calls Tryz.prog 114 #[.pointer (some ⟨R,0,none⟩),.int .i64 n,.bool ex] w fun e w'=>e=.returned (.slice none 0 0)∧w'=w:=by
 obtain ⟨af,az⟩:=hR.fail
 have af':w.cell? ⟨R,2,none⟩=some (.int .i64 x):=af
 have hx0:(x == 0)=false:=beq_eq_false_iff_ne.2 hR.failNe
 clear af hR
 by_cases c:(0:Int) < n
 all_goals
  go_enter Tryz.func114,Tryz.ntmps114
  go_wp2_with fail
  refine wp_loop_rounds 1 ?_; rw [rounds_succ]
  go_wp2_with fail
  go_ret
  exact ⟨rfl,rfl⟩
end Go.Proofs.YtdhobdmhnocbgabGreatDoor
