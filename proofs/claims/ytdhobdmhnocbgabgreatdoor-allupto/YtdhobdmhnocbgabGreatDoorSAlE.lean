import Derived.Test.YtdhobdmhnocbgabGreatDoorSLawF
import Derived.Test.YtdhobdmhnocbgabGreatDoorSOpnE
import Derived.Test.YtdhobdmhnocbgabGreatDoorSOnkeep
namespace Go.Proofs.YtdhobdmhnocbgabGreatDoor
open Go.RowKit Zr
def Q8N (mark:Int):RI:=⟨⟨#[]⟩,mark,0,0,⟨#[]⟩⟩
def QiH (mark:Int):List Value:=[.string ⟨#[]⟩,.int .i64 mark,.int .i64 0,.int .i64 0,.string ⟨#[]⟩]
theorem at5 (cur:Array Value) (o:Nat) (v0 v1 v2 v3 v4:Value) (h:o+5≤cur.size) (i:Nat) (hi:i < 5):(((((cur.setIfInBounds o v0).setIfInBounds (o+1) v1).setIfInBounds (o+2) v2).setIfInBounds (o+3) v3).setIfInBounds (o+4) v4)[o+i]? = ([v0,v1,v2,v3,v4]:List Value)[i]?:=by
 have:i=0∨i=1∨i=2∨i=3∨i=4:=by omega
 simp only [Array.getElem?_setIfInBounds,Array.size_setIfInBounds]
 rcases this with rfl | rfl | rfl | rfl | rfl
 ·rw [if_neg (by omega),if_neg (by omega),if_neg (by omega),if_neg (by omega),if_pos (by omega),if_pos (by omega)]; rfl
 ·rw [if_neg (by omega),if_neg (by omega),if_neg (by omega),if_pos (by omega),if_pos (by omega)]; rfl
 ·rw [if_neg (by omega),if_neg (by omega),if_pos (by omega),if_pos (by omega)]; rfl
 ·rw [if_neg (by omega),if_pos (by omega),if_pos (by omega)]; rfl
 ·rw [if_pos (by omega),if_pos (by omega)]; rfl
theorem QmH (cur:Array Value) (o:Nat) (v0 v1 v2 v3 v4:Value) (x:Nat) (hx:x < o∨o+5≤x):(((((cur.setIfInBounds o v0).setIfInBounds (o+1) v1).setIfInBounds (o+2) v2).setIfInBounds (o+3) v3).setIfInBounds (o+4) v4)[x]? = cur[x]?:=by
 simp only [Array.getElem?_setIfInBounds]
 rw [if_neg (by omega),if_neg (by omega),if_neg (by omega),if_neg (by omega),if_neg (by omega)]
theorem QlR (n:Nat) (mark:Int) (k i:Nat) (hk:k < n) (hi:i < 5):(rcI (List.replicate n (Q8N mark)))[k * 5+i]? = (QiH mark)[i]?:=by
 induction n generalizing k with
 | zero=>omega
 | succ n ih =>
  rw [List.replicate_succ]
  show (QiH mark++rcI (List.replicate n (Q8N mark)))[k * 5+i]? = _
  cases k with
  | zero=>rw [Nat.zero_mul,Nat.zero_add,List.getElem?_append_left (by show i < 5; exact hi)]
  | succ k =>
   rw [List.getElem?_append_right (by show 5≤_; omega)]
   have:=ih k (by omega)
   rw [←this]
   congr 1
   show (k+1) * 5+i - 5=_
   omega
set_option maxRecDepth 100000 in
set_option maxHeartbeats 1000000 in
theorem QfF (a:Option Addr) (n c N:Nat) (xs:List Value) (mark:Int) (w:World) (hown:w.ownsRow N 61 5 (.slice a n c) n xs) (hn:n≤16777216) :
  Calls Tryz.prog 15 #[.slice a n c,.int .i64 mark] w fun e w'=>e=.returned (.tuple #[])∧Marked w' 61 5 a n c mark∧Grew w w' (Value.slice a n c).ownBlock∧w'.ownsRow N 61 5 (.slice a n c) n (rcI (List.replicate n (Q8N mark))):=by
 have hxl:=hown.1
 rcases hown.2 with ⟨h1,h2⟩ | ⟨g,cap,cur0,h1,h2,h3,h4,h5,h6,h7⟩
 ·cases h1
  clear hown
  go_enter Tryz.func15,Tryz.ntmps15
  go_wp2_with fail
  refine wp_loop_rounds 1 ?_; rw [rounds_succ]
  go_wp2_with fail
  go_end0
  exact ⟨rfl,.inl rfl,Grew.refl _ _,World.ownsRow_nil _ _ _ _⟩
 ·cases h1
  have H3:=Qa h3
  have H5:=Qa h5
  unfold maxLen at h5
  have H6:=Qa h6
  clear hown h3 h6 h7 hxl
  go_enter Tryz.func15,Tryz.ntmps15
  go_wp2_with fail
  go_loopg [4] (n+1) (fun gk i w'=>∃ (j:Nat) (cur:Array Value),i=.int .i64 j∧j≤n∧gk=n+1 - j∧Hid (w'.heap[g]? = some (.cells cur 61 (0,0)))∧Hid (cur.size=c * 5)∧Hid (∀ k,k < j→∀ i,i < 5→cur[k * 5+i]? = (QiH mark)[i]?)∧Hid (Grew w w' (some g)))
  case atStart=>exact ⟨0,cur0,rfl,Nat.zero_le _,rfl,H3,H6,fun k hk=>by omega,Grew.refl _ _⟩
  case round =>
   obtain ⟨j,cur,rfl,hj,hg,hB,hS,hm,hG⟩:=hrel
   by_cases cj:j < n
   ·have hs:=Q6 hS
    obtain ⟨z0,c0⟩:=Q2g (Q6 hB) (j * 5) (by omega)
    obtain ⟨z1,c1⟩:=Q2g (Q6 hB) (j * 5+1) (by omega)
    obtain ⟨z2,c2⟩:=Q2g (Q6 hB) (j * 5+2) (by omega)
    obtain ⟨z3,c3⟩:=Q2g (Q6 hB) (j * 5+3) (by omega)
    obtain ⟨z4,c4⟩:=Q2g (Q6 hB) (j * 5+4) (by omega)
    have f0:=Qd (Q6 hB) (j * 5)
    have f1:=Qd (Q6 hB) (j * 5+1)
    have f2:=Qd (Q6 hB) (j * 5+2)
    have f3:=Qd (Q6 hB) (j * 5+3)
    have f4:=Qd (Q6 hB) (j * 5+4)
    have hlt:=Qb (Q6 hB)
    clear hs
    go_wp2_with fail
    go_roundg (n+1 - (j+1))
    case measure=>omega
    case rel =>
     refine ⟨j+1,_,by go_num,by omega,rfl,Qmr (Q6 hB) (j * 5) _ _ _ _ _,?_,?_,?_⟩
     ·show _=_
      simp only [Array.size_setIfInBounds]; exact Q6 hS
     ·intro k hk i hi
      have hs:=Q6 hS
      by_cases hkj:k=j
      ·subst hkj
       exact at5 cur (k * 5) _ _ _ _ _ (by omega) i hi
      ·rw [QmH _ _ _ _ _ _ _ _ (by omega)]
       exact Q6 hm k (by omega) i hi
     ·exact (((((Q6 hG).trans (Grew.set _ _ _ _)).trans (Grew.set _ _ _ _)).trans (Grew.set _ _ _ _)).trans (Grew.set _ _ _ _)).trans (Grew.set _ _ _ _)
   ·have hjn:j=n:=by omega
    subst hjn
    go_wp2_with fail
    go_end0
    have hs:=Q6 hS
    have hrl:(rcI (List.replicate j (Q8N mark))).length=j * 5:=by rw [Q7S,List.length_replicate]
    refine ⟨rfl,.inr ⟨g,cur,rfl,Q6 hB,hs,h4,fun k hk=>?_⟩,Q6 hG,hrl,.inr ⟨g,c,cur,rfl,h2,Q6 hB,h4,Q6 H5,hs,?_⟩⟩
    ·exact Q6 hm k hk 1 (by omega)
    ·apply List.ext_getElem?
     intro x
     by_cases hx:x < j * 5
     ·rw [List.getElem?_take,if_pos hx,Array.getElem?_toList]
      have e1:=Q6 hm (x / 5) (by omega) (x % 5) (by omega)
      have e2:=QlR j mark (x / 5) (x % 5) (by omega) (by omega)
      rw [show x / 5 * 5+x % 5=x by omega] at e1 e2
      rw [e1,e2]
     ·rw [List.getElem?_take,if_neg hx,List.getElem?_eq_none (by omega)]
set_option maxRecDepth 100000 in
set_option maxHeartbeats 1000000 in
theorem Qeg (a:Option Addr) (n c N:Nat) (xs:List Value) (w:World) (hown:w.ownsRow N 61 5 (.slice a n c) n xs) (hn:n≤16777216) :
  Calls Tryz.prog 14 #[.slice a n c] w fun e w'=>e=.returned (.tuple #[])∧w'.ownsRow N 61 5 (.slice a n c) n xs∧Grew w w' (Value.slice a n c).ownBlock:=by
 obtain ⟨i0,hi,hz0,hz1,hz2⟩:=info_parts Tryz.info61
 have Hi:=Qa hi
 have Hz0:=Qa hz0
 have Hz1:=Qa hz1
 have Hz2:=Qa hz2
 clear hi hz0 hz1 hz2
 have hC:=Qa (QbW hown)
 have HO:=Qa hown
 clear hown
 go_enter Tryz.func14,Tryz.ntmps14
 go_wp2_with fail
 go_loopg [0,2] 10 (fun g v i w'=>∃ (j:Nat) (ks:List Value) (r:Nat),i=.int .i64 j∧j≤9∧g=10 - j∧Hid (Upon w 61 5 a ((a.map Addr.block).getD 0) 0 n c xs w' v j ks r))
 case atStart=>exact ⟨0,[],0,rfl,by omega,rfl,Upon.start (Q6 hC)⟩
 case round =>
  obtain ⟨j,ks,r,rfl,hj,hg,hU⟩:=hrel
  by_cases cj:j < 9
  ·go_wp2_with (at_builtin; refine wpList_append_upon _ rfl _ _ 27 27 rfl (Q6 hC) i0 (.agg #[.string ⟨#[]⟩,.int .i64 0,.int .i64 0,.int .i64 0,.string ⟨#[]⟩]) 56 Tryz.underlying27 (Q6 Hi) (Q6 Hz0) (Q6 Hz1) (Q6 Hz2) rfl (by rfl) ((Q6 hU).alloc (Q6 hC) _) (.slice (some ⟨wr.heap.size,0,none⟩) 1 1) 1 [.string ⟨#[]⟩,.int .i64 77,.int .i64 0,.int .i64 0,.string ⟨#[]⟩] (by rfl) (Src.ofSlice _ Tryz.underlying27 ⟨wr.heap.size,0,none⟩ 1 1 _ rfl (Q0E _ _ _ _ _ _ _ _ rfl) (fun x hx=>by simp at hx; rcases hx with rfl | rfl | rfl | rfl | rfl <;> rfl)) (by unfold maxLen; omega) (by omega) ?_; intro v3 w3 hU3)
   go_roundg (10 - (j+1))
   case measure=>omega
   case rel=>exact ⟨j+1,_,_,by go_num,by omega,rfl,hU3⟩
  ·go_wp2_with fail
   go_end0
   exact ⟨rfl,Q8B (Q6 HO) (Q6 hU)⟩
theorem Q8r {w:World} {N Z:Nat} {e:TypeId} {size:Nat} {v:Value} {n:Nat} {xs:List Value} (h:w.ownsRow N e size v n xs) (hZ:Z < N) (j:Nat) (u:Value):(w.setCell ⟨Z,j,none⟩ u).ownsRow N e size v n xs:=by
 refine h.kept (Ql w Z j u) ?_
 cases hv:v.ownBlock with
 | none=>exact .inl rfl
 | some g =>
  refine .inr fun he=>?_
  have:=(h.lt g hv).1
  cases he
  omega
set_option maxRecDepth 100000 in
set_option maxHeartbeats 2000000 in
theorem QlH (m:Msg) (v:Value) (B E:Nat) (mark:Int) (w:World) (h:MsgIs w B v m) (hu:Q3X v E) (hs:Qcv m) (hE:E≤w.heap.size) (hm0:0≤mark) (hm1:mark≤1000000000) :
  Calls Tryz.prog 23 #[v,.int .i64 mark] w fun e w'=>e=.returned (.bool true)∧GrewIn w w' B E∧∀ i f s1 s2 s3 s4,v=.agg #[i,f,s1,s2,s3,s4]→∃ n,n≤65535∧w'.ownsRow B 61 5 s2 n (rcI (List.replicate n (Q8N (mark+1)))):=by
 obtain ⟨a1,c1,a2,c2,a3,c3,a4,c4,rfl,o1,o2,o3,o4,p12,p13,p14,p23,p24,p34⟩:=h
 obtain ⟨u1,u2,u3,u4⟩:=hu _ _ _ _ _ _ rfl
 obtain ⟨s1,s2,s3,s4⟩:=hs
 obtain ⟨box,hbox⟩:∃ o:Obj,o=.cells #[.int .i64 m.id,.int .i64 m.flags,.slice a1 m.q.length c1,.slice a2 m.a.length c2,.slice a3 m.u.length c3,.slice a4 m.x.length c4] 32 (0,0):=⟨_,rfl⟩
 obtain ⟨w0,hw0⟩:∃ w0,w0=w.alloc box:=⟨_,rfl⟩
 have hb0:Below w.heap.size w w0:=by rw [hw0]; exact (Below.refl _ _).alloc (Nat.le_refl _) _
 have hB0:w0.heap[w.heap.size]? = some box:=by rw [hw0]; exact heap_alloc_new _ _
 have q1:=Qk o1 hb0
 have HcM:=QiT o1
 have Q1:=Qa (Q9R q1 mark)
 have Q2:=Qa (Qk o2 hb0)
 have Q3:=Qa (Qk o3 hb0)
 have Q4:=Qa (Qk o4 hb0)
 have I1:=Qa (Q8M o1 u1)
 have I2:=Qa (Q8M o2 u2)
 have I3:=Qa (Q8M o3 u3)
 have I4:=Qa (Q8M o4 u4)
 have P12:=Qa p12
 have P13:=Qa p13
 have P14:=Qa p14
 have P23:=Qa p23
 have P24:=Qa p24
 have P34:=Qa p34
 have HB0:=Qa hB0
 have Hb0:=Qa hb0
 have hmm:(mark != mark)=false:=by simp
 clear o1 o2 o3 o4 u1 u2 u3 u4 hu p12 p13 p14 p23 p24 p34 q1 hB0 hb0
 go_enter Tryz.func23,Tryz.ntmps23
 go_wp2_with fail
 rw [←hbox,←hw0]
 have HBX:=Qa hbox
 clear hbox hw0
 generalize hsz:w.heap.size=S at *
 go_loopg [5] (m.q.length+1) (fun gk i w'=>∃ j:Nat,i=.int .i64 j∧j≤m.q.length∧gk=m.q.length+1 - j∧Hid (Qcu w' 91 3 a1 m.q.length c1 j mark)∧Hid (Grew w0 w' (Value.slice a1 m.q.length c1).ownBlock))
 case atStart=>exact ⟨0,rfl,Nat.zero_le _,rfl,Q1,Grew.refl _ _⟩
 case round =>
  obtain ⟨j,rfl,hj,hg,hM,hG⟩:=hrel
  have hB1:=(GrewIn.of_grew (Q6 hG) (Q6 I1)).blk (Q6 HB0) (.inr hE)
  rw [Q6 HBX] at hB1
  obtain ⟨⟨x0,x1,x2,x3,x4,x5⟩,y0,y1,y2,y3,y4,y5⟩:=Qh hB1
  have HB1:=Qa hB1
  clear hB1
  by_cases cj:j < m.q.length
  ·rcases Q6 hM with hz | ⟨g,cur,rfl,hB,hS,hnc,hmk⟩
   ·omega
   ·have hgE:=Q6 I1 g rfl
    obtain ⟨z0,k0⟩:=Q2g hB (j * 3) (by omega)
    obtain ⟨z1,k1⟩:=Q2g hB (j * 3+1) (by omega)
    obtain ⟨z2,k2⟩:=Q2g hB (j * 3+2) (by omega)
    have f0:=Qd hB (j * 3)
    have f1:=Qd hB (j * 3+1)
    have f2:=Qd hB (j * 3+2)
    have hlt:=Qb hB
    have HBg:=Qa hB
    have HS:=Qa hS
    have HMK:=Qa hmk
    clear hB hS hmk hM
    go_wp2_with fail
    go_roundg (m.q.length+1 - (j+1))
    case measure=>omega
    case rel =>
     refine ⟨j+1,by go_num,by omega,rfl,.inr ⟨g,_,rfl,QmK (Q6 HBg) (j * 3) _ _ _,?_,hnc,?_⟩,?_⟩
     ·simp only [Array.size_setIfInBounds]; exact Q6 HS
     ·intro k hk
      have hs:=Q6 HS
      rw [Qmg]
      by_cases hkj:k=j
      ·subst hkj
       rw [if_pos ⟨rfl,by omega⟩]
      ·rw [if_neg (by omega),if_neg (by omega)]
       exact Q6 HMK k (by omega)
     ·exact (((Q6 hG).trans (Grew.set _ _ _ _)).trans (Grew.set _ _ _ _)).trans (Grew.set _ _ _ _)
  ·have hjn:j=m.q.length:=by omega
   subst hjn
   have hM1:Marked wr 91 3 a1 m.q.length c1 mark:=Q6 hM
   have M1:=Qa hM1
   have R2:=Qa ((Q6 hG).owns (Q6 Q2) (Q0H (Q6 P12).symm))
   have R3:=Qa ((Q6 hG).owns (Q6 Q3) (Q0H (Q6 P13).symm))
   have R4:=Qa ((Q6 hG).owns (Q6 Q4) (Q0H (Q6 P14).symm))
   have HI1:=Qa (GrewIn.of_grew (Q6 hG) (Q6 I1))
   clear hM hM1 hG Q1 Q2 Q3 Q4
   go_wp2_with fail
   refine (QfF a2 m.a.length c2 B (Q0e m.a) (mark+1) _ (Q6 R2) (by omega)).mono ?_
   rintro e w2 ⟨rfl,m2,hG2,ow2⟩
   have OW2:=Qa ow2
   clear ow2
   have hI2:=GrewIn.of_grew hG2 (Q6 I2)
   have hB2:=hI2.blk (Q6 HB1) (.inr hE)
   have N1:=Qa ((Q6 M1).keep hG2 (Q0H (Q6 P12)))
   have N2:=Qa m2
   have T3:=Qa (hG2.owns (Q6 R3) (Q0H (Q6 P23).symm))
   have T4:=Qa (hG2.owns (Q6 R4) (Q0H (Q6 P24).symm))
   have HI2:=Qa ((Q6 HI1).trans hI2)
   clear x0 x1 x2 x3 x4 x5 y0 y1 y2 y3 y4 y5
   obtain ⟨⟨x0,x1,x2,x3,x4,x5⟩,y0,y1,y2,y3,y4,y5⟩:=Qh hB2
   have HB2:=Qa hB2
   clear hI2 hB2 hG2 m2 M1 R2 R3 R4 HI1 HB1
   go_wp2_with fail
   refine (QcR a3 m.u.length c3 B (Q0e m.u) (mark+2) _ (Q6 T3) s3).mono ?_
   rintro e w3 ⟨rfl,m3,hG3⟩
   have hI3:=GrewIn.of_grew hG3 (Q6 I3)
   have hB3:=hI3.blk (Q6 HB2) (.inr hE)
   have O1:=Qa ((Q6 N1).keep hG3 (Q0H (Q6 P13)))
   have O2:=Qa ((Q6 N2).keep hG3 (Q0H (Q6 P23)))
   have O3:=Qa m3
   have OW3:=Qa (hG3.owns (Q6 OW2) (Q0H (Q6 P23)))
   have U4:=Qa (hG3.owns (Q6 T4) (Q0H (Q6 P34).symm))
   have HI3:=Qa ((Q6 HI2).trans hI3)
   clear x0 x1 x2 x3 x4 x5 y0 y1 y2 y3 y4 y5
   obtain ⟨⟨x0,x1,x2,x3,x4,x5⟩,y0,y1,y2,y3,y4,y5⟩:=Qh hB3
   have HB3:=Qa hB3
   clear hI3 hB3 hG3 m3 N1 N2 T3 T4 HI2 HB2
   go_wp2_with fail
   refine (QcR a4 m.x.length c4 B (Q0e m.x) (mark+3) _ (Q6 U4) s4).mono ?_
   rintro e w4 ⟨rfl,m4,hG4⟩
   have hI4:=GrewIn.of_grew hG4 (Q6 I4)
   have hB4:=hI4.blk (Q6 HB3) (.inr hE)
   have L1:=Qa ((Q6 O1).keep hG4 (Q0H (Q6 P14)))
   have L2:=Qa ((Q6 O2).keep hG4 (Q0H (Q6 P24)))
   have L3:=Qa ((Q6 O3).keep hG4 (Q0H (Q6 P34)))
   have L4:=Qa m4
   have OW4:=Qa (hG4.owns (Q6 OW3) (Q0H (Q6 P24)))
   have HI4:=Qa ((Q6 HI3).trans hI4)
   clear x0 x1 x2 x3 x4 x5 y0 y1 y2 y3 y4 y5
   obtain ⟨⟨x0,x1,x2,x3,x4,x5⟩,y0,y1,y2,y3,y4,y5⟩:=Qh hB4
   clear hI4 hB4 hG4 m4 O1 O2 O3 U4 HI3 HB3
   have hfin:=(GrewIn.of_below (B:=B) (E:=E) (by rw [hsz]; exact Q6 Hb0)).trans (Q6 HI4)
   have HF:=Qa hfin
   clear hfin HI4
   go_wp2_with fail
   go_loop [6] (fun i=>∃ j:Nat,j≤m.q.length∧i=.int .i64 j) (fun i=>m.q.length - (intOf i).toNat)
   case atStart=>exact ⟨0,Nat.zero_le _,rfl⟩
   case round =>
    obtain ⟨j,hj2,rfl⟩:=hrel
    by_cases cj2:j < m.q.length
    ·rcases Q6 L1 with hz | ⟨g,cur,rfl,hB,hS,hnc,hmk⟩
     ·omega
     ·have hc:w4.cell? ⟨g,j * 3+1,none⟩=some (.int .i64 mark):=by rw [Qc hB]; exact hmk j cj2
      clear hB hS hmk
      go_wp2_with fail
      go_round
      case rel=>exact ⟨j+1,by omega,by go_num⟩
      case measure=>simp [intOf]; omega
    ·go_wp2_with fail
     refine (Q8v a2 m.a.length c2 (mark+1) _ (Q6 L2) s2).mono ?_
     rintro e w5 ⟨rfl,rfl⟩
     go_wp2_with fail
     refine (Q8v a3 m.u.length c3 (mark+2) _ (Q6 L3) s3).mono ?_
     rintro e w5 ⟨rfl,rfl⟩
     go_wp2_with fail
     refine (Q8v a4 m.x.length c4 (mark+3) _ (Q6 L4) s4).mono ?_
     rintro e w5 ⟨rfl,rfl⟩
     go_wp2_with fail
     go_ret
     exact ⟨rfl,Q6 HF,fun i f t1 t2 t3 t4 hv=>by cases hv; exact ⟨m.a.length,s2,Q6 OW4⟩⟩
set_option maxRecDepth 100000 in
set_option maxHeartbeats 2000000 in
theorem Qh3 (b:ByteArray) (k:Int) (w:World) (hm:b.size≤maxLen) (hk0:0≤k) (hk1:k≤2000000) :
  Calls Tryz.prog 10 #[.string b,.int .i64 k] w fun e w'=>Grew w w' none∧∃ i f a1 n1 c1 a2 n2 c2 a3 n3 c3 a4 n4 c4 mark,e=.returned (.tuple #[.agg #[.int .i64 i,.int .i64 f,.slice a1 n1 c1,.slice a2 n2 c2,.slice a3 n3 c3,.slice a4 n4 c4],.bool true])∧n2≤65535∧w'.ownsRow w.heap.size 61 5 (.slice a2 n2 c2) n2 (rcI (List.replicate n2 (Q8N mark))):=by
 have key1:=fun w=>Qb6 b w hm
 have key2:=fun w=>Q7V b w hm
 have hsm:=QdO b
 generalize Q0X b=r at key1 key2 hsm
 have K1:=Qa key1
 have K2:=Qa key2
 clear key1 key2
 generalize hN:w.heap.size=N
 have hA:(w.alloc Q25).heap[N]? = some Q25:=by rw [←hN]; exact heap_alloc_new _ _
 have hG:Below N w (w.alloc Q25):=(Below.refl _ _).alloc (by omega) _
 have hS:(w.alloc Q25).heap.size=N+1:=by simp [hN]
 unfold Q25 at hA hG hS
 go_enter Tryz.func10,Tryz.ntmps10
 go_wp2_with fail
 generalize w.alloc (.cells #[.int .i64 0,.int .i64 0,.slice none 0 0,.slice none 0 0,.slice none 0 0,.slice none 0 0] 32 (0,0))=w0 at *
 refine (Q6 K1 w0).mono ?_
 rintro e w1 ⟨v,rfl,hM,hb1⟩
 rw [hS] at hM hb1
 obtain ⟨a1,n1,c1,a2,n2,c2,a3,n3,c3,a4,n4,c4,rfl⟩:=hM.form
 have hA1:=(hb1.block N (by omega)).trans hA
 have hbw1:Below N w w1:=hG.trans (hb1.mono (by omega))
 have hU:=hM.under
 have hl1:=Qb hA1
 generalize hS1:w1.heap.size=S1 at *
 have HM:=Qa hM
 have HU:=Qa hU
 have HA1:=Qa hA1
 clear hM hU hA1 hA hG hS hb1 K1
 go_wp2_with fail
 have hal:Below w1.heap.size w1 (w1.alloc (.cells #[.int .i64 (Q0R r).id,.int .i64 (Q0R r).flags,.slice a1 n1 c1,.slice a2 n2 c2,.slice a3 n3 c3,.slice a4 n4 c4] 32 (0,0))):=(Below.refl _ _).alloc (Nat.le_refl _) _
 have hz1:(w1.alloc (.cells #[.int .i64 (Q0R r).id,.int .i64 (Q0R r).flags,.slice a1 n1 c1,.slice a2 n2 c2,.slice a3 n3 c3,.slice a4 n4 c4] 32 (0,0))).heap.size=S1+1:=by simp [hS1]
 have hX1:(w1.alloc (.cells #[.int .i64 (Q0R r).id,.int .i64 (Q0R r).flags,.slice a1 n1 c1,.slice a2 n2 c2,.slice a3 n3 c3,.slice a4 n4 c4] 32 (0,0))).heap[S1]? = some (.cells #[.int .i64 (Q0R r).id,.int .i64 (Q0R r).flags,.slice a1 n1 c1,.slice a2 n2 c2,.slice a3 n3 c3,.slice a4 n4 c4] 32 (0,0)):=by rw [←hS1]; exact heap_alloc_new _ _
 have hM1:=(Q6 HM).below hal
 have hA2:=(hal.block N (by rw [hS1]; exact hl1)).trans (Q6 HA1)
 have hbw2:Below N w (w1.alloc (.cells #[.int .i64 (Q0R r).id,.int .i64 (Q0R r).flags,.slice a1 n1 c1,.slice a2 n2 c2,.slice a3 n3 c3,.slice a4 n4 c4] 32 (0,0))):=hbw1.trans (hal.mono (by omega))
 generalize w1.alloc (.cells #[.int .i64 (Q0R r).id,.int .i64 (Q0R r).flags,.slice a1 n1 c1,.slice a2 n2 c2,.slice a3 n3 c3,.slice a4 n4 c4] 32 (0,0))=y1 at *
 clear HM HA1 hal hbw1
 refine (Q6 K2 y1).mono ?_
 rintro e w2 ⟨v,rfl,hM2,hb2⟩
 rw [hz1] at hM2 hb2
 obtain ⟨b1,m1,d1,b2,m2,d2,b3,m3,d3,b4,m4,d4,rfl⟩:=hM2.form
 have hbb:Below y1.heap.size y1 w2:=by rw [hz1]; exact hb2
 have hM3:=hM1.below hbb
 have hX2:=(hbb.block S1 (by omega)).trans hX1
 have hA3:=(hbb.block N (by omega)).trans hA2
 have hbw3:Below N w w2:=hbw2.trans (hbb.mono (by omega))
 have hl2:=Qb hX2
 generalize hS2:w2.heap.size=S2 at *
 have HM1:=Qa hM3
 have HM2:=Qa hM2
 have HX:=Qa hX2
 have HA:=Qa hA3
 clear hM1 hM2 hM3 hX1 hX2 hA2 hA3 hbb hb2 hz1 hbw2 K2
 obtain ⟨⟨x0,x1,x2,x3,x4,x5⟩,y0,y1,y2,y3,y4,y5⟩:=Qh (Q6 HX)
 go_wp2_with fail
 have hal:Below w2.heap.size w2 (w2.alloc (.cells #[.int .i64 (Q0R r).id,.int .i64 (Q0R r).flags,.slice b1 m1 d1,.slice b2 m2 d2,.slice b3 m3 d3,.slice b4 m4 d4] 32 (0,0))):=(Below.refl _ _).alloc (Nat.le_refl _) _
 have hz2:(w2.alloc (.cells #[.int .i64 (Q0R r).id,.int .i64 (Q0R r).flags,.slice b1 m1 d1,.slice b2 m2 d2,.slice b3 m3 d3,.slice b4 m4 d4] 32 (0,0))).heap.size=S2+1:=by simp [hS2]
 have hY1:(w2.alloc (.cells #[.int .i64 (Q0R r).id,.int .i64 (Q0R r).flags,.slice b1 m1 d1,.slice b2 m2 d2,.slice b3 m3 d3,.slice b4 m4 d4] 32 (0,0))).heap[S2]? = some (.cells #[.int .i64 (Q0R r).id,.int .i64 (Q0R r).flags,.slice b1 m1 d1,.slice b2 m2 d2,.slice b3 m3 d3,.slice b4 m4 d4] 32 (0,0)):=by rw [←hS2]; exact heap_alloc_new _ _
 have hM1:=(Q6 HM1).below hal
 have hM2:=(Q6 HM2).below hal
 have hX1:=(hal.block S1 (by rw [hS2]; omega)).trans (Q6 HX)
 have hA1:=(hal.block N (by rw [hS2]; omega)).trans (Q6 HA)
 have hbw1:Below N w (w2.alloc (.cells #[.int .i64 (Q0R r).id,.int .i64 (Q0R r).flags,.slice b1 m1 d1,.slice b2 m2 d2,.slice b3 m3 d3,.slice b4 m4 d4] 32 (0,0))):=hbw3.trans (hal.mono (by omega))
 generalize w2.alloc (.cells #[.int .i64 (Q0R r).id,.int .i64 (Q0R r).flags,.slice b1 m1 d1,.slice b2 m2 d2,.slice b3 m3 d3,.slice b4 m4 d4] 32 (0,0))=z2 at *
 clear HM1 HM2 HX HA hal hbw3 x0 x1 x2 x3 x4 x5 y0 y1 y2 y3 y4 y5
 refine (Q57 (Q0R r) _ _ (N+1) (S1+1) z2 hM1 hM2 hsm).mono ?_
 rintro e w3 ⟨rfl,hb3⟩
 have hM1':=hM1.below hb3
 have hM2':=hM2.below hb3
 have hX2:=(hb3.block S1 (by omega)).trans hX1
 have hY2:=(hb3.block S2 (by omega)).trans hY1
 have hA2:=(hb3.block N (by omega)).trans hA1
 have hG3:GrewIn w w3 N S1:=GrewIn.of_below (by rw [hN]; exact hbw1.trans (hb3.mono (by omega)))
 have hl3:S2 < w3.heap.size:=Qb hY2
 have HM1:=Qa hM1'
 have HM2:=Qa hM2'
 have HX:=Qa hX2
 have HY:=Qa hY2
 have HA:=Qa hA2
 have HG:=Qa hG3
 clear hM1 hM2 hM1' hM2' hX1 hX2 hY1 hY2 hA1 hA2 hb3 hbw1 hG3 hz2
 obtain ⟨⟨x0,x1,x2,x3,x4,x5⟩,y0,y1,y2,y3,y4,y5⟩:=Qh (Q6 HX)
 go_wp2_with fail
 refine (QaM (Q0R r) _ (N+1) S1 w3 (Q6 HM1) (Q6 HU) hsm (by omega)).mono ?_
 rintro e w4 ⟨rfl,hM1',hI⟩
 have hM2':=(Q6 HM2).in hI (by omega)
 have hX2:=hI.blk (Q6 HX) (.inr (Nat.le_refl _))
 have hY2:=hI.blk (Q6 HY) (.inr (by omega))
 have hA2:=hI.blk (Q6 HA) (.inl (by omega))
 have hG4:GrewIn w w4 N S1:=(Q6 HG).trans ⟨hI.os,hI.output,hI.size,fun k hk hc=>hI.block k hk (by omega)⟩
 have hl4:S2 < w4.heap.size:=Qb hY2
 clear HM1 HM2 HX HY HA HG hI x0 x1 x2 x3 x4 x5 y0 y1 y2 y3 y4 y5 hl3
 have HM1:=Qa hM1'
 have HM2:=Qa hM2'
 have HX:=Qa hX2
 have HY:=Qa hY2
 have HA:=Qa hA2
 have HG:=Qa hG4
 clear hM1' hM2' hX2 hY2 hA2 hG4
 obtain ⟨⟨x0,x1,x2,x3,x4,x5⟩,y0,y1,y2,y3,y4,y5⟩:=Qh (Q6 HX)
 obtain ⟨⟨t0,t1,t2,t3,t4,t5⟩,j0,j1,j2,j3,j4,j5⟩:=Qh (Q6 HY)
 go_wp2_with fail
 refine (Q57 (Q0R r) _ _ (N+1) (S1+1) w4 (Q6 HM1) (Q6 HM2) hsm).mono ?_
 rintro e w5 ⟨rfl,hb5⟩
 have hM1':=(Q6 HM1).below hb5
 have hX2:=(hb5.block S1 (by omega)).trans (Q6 HX)
 have hA2:=(hb5.block N (by omega)).trans (Q6 HA)
 have hG5:GrewIn w w5 N S1:=(Q6 HG).trans (GrewIn.of_below hb5)
 have hl5:S1 < w5.heap.size:=Qb hX2
 clear HM1 HM2 HX HY HA HG hb5 x0 x1 x2 x3 x4 x5 y0 y1 y2 y3 y4 y5 t0 t1 t2 t3 t4 t5 j0 j1 j2 j3 j4 j5
 have HM1:=Qa hM1'
 have HX:=Qa hX2
 have HA:=Qa hA2
 have HG:=Qa hG5
 clear hM1' hX2 hA2 hG5
 obtain ⟨⟨x0,x1,x2,x3,x4,x5⟩,y0,y1,y2,y3,y4,y5⟩:=Qh (Q6 HX)
 go_wp2_with fail
 refine (QlH (Q0R r) _ (N+1) S1 _ w5 (Q6 HM1) (Q6 HU) hsm (by omega) (by omega) (by omega)).mono ?_
 rintro e w6 ⟨rfl,hI,how⟩
 obtain ⟨n2',hn2',how⟩:=how _ _ _ _ _ _ rfl
 obtain rfl:n2=n2':=by obtain ⟨_,_,hq⟩:=Q3f how; injection hq
 have HOW:=Qa how
 clear how
 have hX2:=hI.blk (Q6 HX) (.inr (Nat.le_refl _))
 have hA2:=hI.blk (Q6 HA) (.inl (by omega))
 have hG6:GrewIn w w6 N S1:=(Q6 HG).trans ⟨hI.os,hI.output,hI.size,fun k hk hc=>hI.block k hk (by omega)⟩
 clear HM1 HX HA HG hI x0 x1 x2 x3 x4 x5 y0 y1 y2 y3 y4 y5
 obtain ⟨⟨x0,x1,x2,x3,x4,x5⟩,y0,y1,y2,y3,y4,y5⟩:=Qh hX2
 obtain ⟨⟨t0,t1,t2,t3,t4,t5⟩,j0,j1,j2,j3,j4,j5⟩:=Qh hA2
 have hl6:=Qb hA2
 have HA:=Qa hA2
 have HG:=Qa hG6
 have hee:(Q8J r == Q8J r)=true:=by simp
 clear hX2 hA2 hG6
 go_wp2_with fail
 have hf:=Q4T (Q6 HA) (.int .i64 (Q0R r).id) (.int .i64 (Q0R r).flags) (.slice a1 n1 c1) (.slice a2 n2 c2) (.slice a3 n3 c3) (.slice a4 n4 c4)
 obtain ⟨⟨g0,g1,g2,g3,g4,g5⟩,_⟩:=Qh hf
 refine bodyPost_ret (v:=.tuple #[.agg #[.int .i64 (Q0R r).id,.int .i64 (Q0R r).flags,.slice a1 n1 c1,.slice a2 n2 c2,.slice a3 n3 c3,.slice a4 n4 c4],.bool true]) (by simp [results,Tryz.results10,go_sem,g0,g1,g2,g3,g4,g5]) rfl ⟨?_,_,_,_,_,_,_,_,_,_,_,_,_,_,_,_,rfl,hn2',Q1r (Q8r (Q8r (Q8r (Q8r (Q8r (Q8r (Q6 HOW) (Nat.lt_succ_self N) 0 _) (Nat.lt_succ_self N) 1 _) (Nat.lt_succ_self N) 2 _) (Nat.lt_succ_self N) 3 _) (Nat.lt_succ_self N) 4 _) (Nat.lt_succ_self N) 5 _) (Nat.le_succ N)⟩
 have hset:=((((((Grew.set w6 N 0 (.int .i64 (Q0R r).id)).trans (Grew.set _ N 1 (.int .i64 (Q0R r).flags))).trans (Grew.set _ N 2 (.slice a1 n1 c1))).trans (Grew.set _ N 3 (.slice a2 n2 c2))).trans (Grew.set _ N 4 (.slice a3 n3 c3))).trans (Grew.set _ N 5 (.slice a4 n4 c4)))
 have hg:=Q6 HG
 have hne:∀ i,i < w.heap.size→some i≠some N:=fun i hi e=>by
  simp at e
  omega
 exact ⟨hset.os.trans hg.os,hset.output.trans hg.output,Nat.le_trans hg.size hset.size,fun i hi _=>(hset.block i (Nat.lt_of_lt_of_le hi hg.size) (hne i hi)).trans (hg.block i hi (.inl (by omega)))⟩
end Go.Proofs.YtdhobdmhnocbgabGreatDoor
