import Derived.Test.YtdhobdmhnocbgabGreatDoorSMsgx
import Derived.Test.YtdhobdmhnocbgabGreatDoorSWellY
namespace Go.Proofs.YtdhobdmhnocbgabGreatDoor
open Go.RowKit Zr
theorem Wr.rdr {w w':World} {N R R2:Nat} {B:ByteArray} {K:List (ByteArray × Nat)} {b:ByteArray} {k e:Int} (h:Wr w N R B K) (hr:w.heap[R2]? = some (rdr b k e)) (hg:w.grownBy w' (some R2)):Wr w' N R B K:=by
 obtain ⟨vb,ab,cb,vk,ak,ck,hR,hN,e1,e2,o1,o2⟩:=h
 unfold Go.Proofs.YtdhobdmhnocbgabGreatDoor.rdr at hr
 have hne:∀ {e':TypeId} {size:Nat} {v:Value} {n:Nat} {xs:List Value},w.ownsRow N e' size v n xs→e'≠122→v.ownBlock=none∨v.ownBlock≠some R2:=by
  intro e' size v n xs ho ht
  rcases ho.2 with ⟨rfl,_⟩ | ⟨g,cap,cur,rfl,hbg,hgg,_⟩
  ·exact .inl rfl
  ·refine .inr (fun he=>?_)
   simp only [Value.ownBlock,Option.some.injEq] at he
   subst he
   rw [hgg] at hr
   cases hr
   exact ht rfl
 refine ⟨vb,ab,cb,vk,ak,ck,(hg.block R (Qb hR) (fun he=>?_)).trans hR,hN,e1,e2,o1.kept hg (hne o1 (by decide)),o2.kept hg (hne o2 (by decide))⟩
 cases he
 rw [hR] at hr
 cases hr
theorem WFrame.grown_new {N R2:Nat} {w a b:World} (h:WFrame N w a) (hg:a.grownBy b (some R2)) (hR:w.heap.size≤R2):WFrame N w b :=
 ⟨hg.os.trans h.os,hg.tape.trans h.tape,hg.output.trans h.output,Nat.le_trans h.size hg.size,
  fun k h1 h2=>(hg.block k (Nat.lt_of_lt_of_le h2 h.size) (fun e=>by cases e; omega)).trans (h.low k h1 h2),
  fun k cs t fr h1 h2 h3 h4=>(hg.block k (Nat.lt_of_lt_of_le (Qb h1) h.size) (fun e=>by cases e; have:=Qb h1; omega)).trans (h.kind k cs t fr h1 h2 h3 h4)⟩
theorem WFrame.rdr {N R2:Nat} {w a:World} {b:ByteArray} {k e:Int} (h:WFrame N w a) (hr:w.heap[R2]? = some (rdr b k e)):a.heap[R2]? = some (rdr b k e) :=
 h.kind R2 _ _ _ hr (by decide) (by decide) (by decide)
set_option maxRecDepth 100000 in
set_option maxHeartbeats 2000000 in
theorem QdK (N R:Nat) (B:ByteArray) (K:List (ByteArray × Nat)) (d:ByteArray) (t p:Nat) (w:World) (h:Wr w N R B K) (hK:K.length≤200000) (hO:KOk K) (hp:p≤1000000) (hd:Q1Y t d) :
  Calls Tryz.prog 180 #[.pointer (some ⟨R,0,none⟩),.string d,.int .i64 t,.int .i64 p] w fun e w'=>e=.returned (.string (Q1B K d t p).1)∧Wr w' N R B (Q1B K d t p).2∧WFrame N w w':=by
 have hds:=hd.1
 have hlt:=h.lt
 by_cases hn:Q01 t=0
 ·have hS:Q1B K d t p=(d,K):=by
   unfold Q1B
   rw [hn]
   simp only [Q0m]
   rw [Q13,empty_append]
  rw [hS]
  have hnn:¬ ((t:Int)=2∨(t:Int)=5∨(t:Int)=12):=by unfold Q01 at hn; intro c; rw [if_pos (by omega)] at hn; omega
  have hn6:(t:Int)≠6:=by unfold Q01 at hn; intro c; rw [if_neg (by omega),if_pos (by omega)] at hn; omega
  have H:=Qa h
  have H1:=Qa hnn
  have H2:=Qa hn6
  clear h hnn hn6 hn hS hd
  go_enter Tryz.func180,Tryz.ntmps180
  go_wp2_with fail
  refine (Q5w _ _ (Q6 H1) (Q6 H2)).mono ?_
  rintro e w1 ⟨rfl,rfl⟩
  go_wp2_with fail
  go_ret
  exact ⟨rfl,Q6 H,WFrame.refl _ _⟩
 ·obtain ⟨hnm,hend⟩:=Q90 K d t p hd hn
  have key:∀ w,Calls Tryz.prog 194 #[.int .i64 t] w fun e w'=>e=.returned (.tuple #[.int .i64 (Q01 t),.int .i64 (Q1I t)])∧w'=w:=by
   intro w
   by_cases c1:t=2∨t=5∨t=12
   ·have h1:=Q8O (t:Int) w (by omega)
    have e1:Q01 t=1:=by unfold Q01; rw [if_pos c1]
    have e2:Q1I t=0:=by unfold Q1I; rw [if_pos c1]
    rw [e1,e2]; exact h1
   ·have e0:t=6:=by unfold Q01 at hn; rw [if_neg c1] at hn; split at hn <;> omega
    subst e0
    exact Q8P w
  have Key:=Qa key
  have HN:=Qa hnm
  have HE:=Qa hend
  have H:=Qa h
  have HO:=Qa hO
  have hm2:=Q5x t
  have hrest:Q1I t≤20:=by unfold Q1I; split <;> (try split) <;> omega
  have hpos:0 < Q01 t:=by omega
  have hS:Q1B K d t p=((Q0m K d p (Q01 t)).1++d.extract (Q0m K d p (Q01 t)).2.2 d.size,(Q0m K d p (Q01 t)).2.1):=rfl
  have HS:=Qa hS
  have HBd:=Qa (Q8y K d p hO)
  clear key hnm hend h hO hn hd hS
  generalize Q01 t=m at *
  generalize Q1I t=more at *
  obtain ⟨R2,hR2⟩:∃ R2,w.heap.size=R2:=⟨_,rfl⟩
  have h0:∀ o,(w.alloc o).heap[R2]? = some o:=fun o=>by rw [←hR2]; exact heap_alloc_new _ _
  have HA:=Qa h0
  clear h0
  have hm0:((m:Int) == 0)=false:=beq_eq_false_iff_ne.2 (by omega)
  go_enter Tryz.func180,Tryz.ntmps180
  go_wp2_with fail
  refine (Q6 Key _).mono ?_
  rintro e w1 ⟨rfl,hw1⟩
  rw [hw1]
  clear hw1
  go_wp2_with fail
  go_loopw [12,13] (fun v i w'=>∃ j:Nat,v=.string (Q0m K d p j).1∧i=.int .i64 j∧j≤m∧Hid (w'.heap[R2]? = some (rdr d (Q0m K d p j).2.2 0))∧Hid (Wr w' N R B (Q0m K d p j).2.1)∧Hid (WFrame N w w')) (fun _ i _=>m - (intOf i).toNat)
  case atStart =>
   have hal:Below w.heap.size w (w.alloc (.cells #[.string d,.int .i64 0,.int .i64 0] 122)):=(Below.refl _ _).alloc (Nat.le_refl _) _
   exact ⟨0,rfl,rfl,Nat.zero_le _,Q6 HA _,(Q6 H).below hal,WFrame.of_below hal⟩
  case round =>
   obtain ⟨j,rfl,rfl,hj,hr,hW,hF⟩:=hrel
   obtain ⟨b1,b2,b3,b4⟩:=Q6 HBd j
   by_cases cj:j < m
   ·obtain ⟨x,u,hx⟩:=Q6 HN j cj
    have hnx:=Q5D K d p j x u hx
    have hw:=Q1G d _ x u hx
    have hxb:=Q0F d _ x u hx
    have Hx:=Qa hx
    have HNX:=Qa hnx
    have HB3:=Qa b3
    have hWl:=(Q6 hW).lt
    obtain ⟨tl0,tl1⟩:=Qaw hw
    have HTl:=Qa tl0
    clear hx hnx b3 hw tl0
    generalize Q0m K d p j=st at *
    obtain ⟨s,K1,q⟩:=st
    simp only at *
    go_wp2_with fail
    refine (Q9f R2 d q _ (by omega) (Q6 hr) (by omega) (by omega) x u (by rw [Int.toNat_natCast]; exact Hx)).mono ?_
    rintro e w1 ⟨rfl,hR1,hg1⟩
    have hW1:=(Q6 hW).rdr (Q6 hr) hg1
    have hF1:=(Q6 hF).grown_new hg1 (by omega)
    have HR1:=Qa hR1
    have HW1:=Qa hW1
    have HF1:=Qa hF1
    clear hR1 hg1 hW1 hF1 hW hF hr
    go_wp2_with fail
    refine (Qg1 N R B K1 x (p+s.size) _ (Q6 HW1) (by omega) (Q6 HB3) (by omega) (Q6 HTl) tl1).mono ?_
    rintro e w2 ⟨rfl,h2,f2⟩
    have hR2':=f2.rdr (Q6 HR1)
    have HR2:=Qa hR2'
    have H2:=Qa h2
    have F2:=Qa ((Q6 HF1).trans f2)
    have hsl:=(Q58 K1 x (p+s.size)).2
    clear hR2' h2 f2
    generalize Q1p K1 x (p+s.size)=r at *
    obtain ⟨r1,r2⟩:=r
    simp only at *
    go_wp2_with fail
    go_roundw
    case rel=>exact ⟨j+1,by rw [Q6 HNX],by go_num,by omega,by rw [Q6 HNX]; exact HR2,by rw [Q6 HNX]; exact H2,F2⟩
    case measure=>simp [intOf]; omega
   ·have hjm:j=m:=by omega
    subst hjm
    have hend:=Q6 HE
    have hz:(d.extract (Q0m K d p j).2.2 ((Q0m K d p j).2.2+more)).size≤65535:=by rw [ByteArray.size_extract]; omega
    clear HE HN HBd Key
    generalize Q0m K d p j=st at *
    obtain ⟨s,K1,q⟩:=st
    simp only at *
    go_wp2_with fail
    refine (Q3s R2 d q more _ hds (Q6 hr) (by omega) (by omega) (by omega)).mono ?_
    rw [Int.toNat_natCast,Int.toNat_natCast]
    rintro e w1 ⟨rfl,hR1,hg1⟩
    have hW1:=(Q6 hW).rdr (Q6 hr) hg1
    have hF1:=(Q6 hF).grown_new hg1 (by omega)
    have HW1:=Qa hW1
    have HF1:=Qa hF1
    clear hR1 hg1 hW1 hF1
    go_wp2_with fail
    go_ret
    exact ⟨by rw [Q6 HS]; rfl,by rw [Q6 HS]; exact Q6 HW1,Q6 HF1⟩
end Go.Proofs.YtdhobdmhnocbgabGreatDoor
