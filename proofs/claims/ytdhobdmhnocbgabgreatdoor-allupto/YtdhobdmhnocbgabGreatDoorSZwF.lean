import Derived.Test.YtdhobdmhnocbgabGreatDoorSZwD
import Derived.Test.YtdhobdmhnocbgabGreatDoorSTxE
import Derived.Test.YtdhobdmhnocbgabGreatDoorSMwO
namespace Go.Proofs.YtdhobdmhnocbgabGreatDoor
open Go.RowKit Zr
theorem Qj8 (l:List Ev) (j:Nat) (h:j < l.length):((Q2i l[j]∧Q2S l j < l[j].inc)→Q2S l (j+1)=l[j].inc)∧(¬ (Q2i l[j]∧Q2S l j < l[j].inc)→Q2S l (j+1)=Q2S l j):=by
 have e:=Q4c h
 constructor
 ·intro hc
  conv=>lhs; unfold Q2S
  rw [e,if_pos hc]
 ·intro hc
  conv=>lhs; unfold Q2S
  rw [e,if_neg hc]
set_option maxRecDepth 100000 in
set_option maxHeartbeats 2000000 in
theorem Qf9 (l:List Ev) (a:Option Addr) (c N:Nat) (w:World) (hrow:RowAt w N a (evC l)) (hN:N≤w.heap.size) (hl:l.length≤33554432) (hz:Q2d l) :
  Calls Tryz.prog 60 #[.slice a l.length c] w fun e w'=>e=.returned (.int .i64 (Q2S l l.length))∧Below w.heap.size w w':=by
 have HRow:=Qa hrow
 have HZ:=Qa hz
 have HT:=Qa (Qj8 l)
 clear hrow hz
 obtain ⟨M,hM⟩:∃ M,w.heap.size=M:=⟨_,rfl⟩
 have HM:=Qa hM
 have hs0:M≤w.heap.size:=by omega
 rw [hM] at hN
 clear hM
 go_enter Tryz.func60,Tryz.ntmps60
 go_wp2_with fail
 go_loopw [3,4] (fun v vi w'=>∃ (j:Nat) (m:Int),j≤l.length∧vi=.int .i64 j∧v=.int .i64 m∧Hid (Q2S l j=m)∧Hid (Below M w w')∧M≤w'.heap.size) (fun _ vi _=>l.length - (intOf vi).toNat)
 case atStart=>exact ⟨0,0,Nat.zero_le _,rfl,rfl,Qa rfl,Qa (Below.refl _ _),hs0⟩
 case round =>
  obtain ⟨j,m,hj,rfl,rfl,HS,HB,hs⟩:=hrel
  by_cases cj:j < l.length
  ·obtain ⟨b,o,rfl,hb,x0,x1,x2,x3,x4,x5,x6⟩:=Q2K ((Q6 HRow).below ((Q6 HB).mono hN)) j cj
   obtain ⟨s1,s2,s3,s4⟩:=Q6 HZ j cj
   obtain ⟨t1,t2⟩:=Q6 HT j cj
   rw [Q6 HS] at t1 t2
   have key:=fun W=>Q9E l[j] W (by omega) (by omega) (by omega) (by omega)
   have T1:=Qa t1
   have T2:=Qa t2
   have Key:=Qa key
   clear t1 t2 key s1 s2 s3 s4
   obtain ⟨k,hk⟩:∃ k,l[j]=k:=⟨_,rfl⟩
   rw [hk] at T1 T2 Key x0 x1 x2 x3 x4 x5 x6
   clear hk
   unfold Ev.val at Key
   generalize Q2i k=G at *
   obtain ⟨kd,nd,ic,ad,pt,tx,al⟩:=k
   simp only at x0 x1 x2 x3 x4 x5 x6 Key T1 T2
   go_wp2_with fail
   refine (Q6 Key _).mono ?_
   rintro e w1 ⟨⟨bb,rfl,hbb⟩,hb1⟩
   have y2:=(hb1.cell (p:=⟨b,o+j * 7+2,none⟩) (by show b < _; omega)).trans x2
   have HB1:=Qa ((Q6 HB).trans (hb1.mono hs))
   have hs1:M≤w1.heap.size:=Nat.le_trans hs hb1.size
   have HBB:=Qa hbb
   clear hbb hb1 x0 x1 x2 x3 x4 x5 x6 HB Key hs
   by_cases cc:bb=true∧m < ic
   ·obtain ⟨rfl,cm⟩:=cc
    have HT1:=Qa (Q6 T1 ⟨(Q6 HBB).1 (by simp),cm⟩)
    clear T1 T2
    go_wp2_with fail
    go_roundw
    case rel=>exact ⟨j+1,_,by omega,by go_num,rfl,HT1,HB1,hs1⟩
    case measure=>simp [intOf]; omega
   ·have HT2:=Qa (Q6 T2 (fun h=>cc ⟨(Q6 HBB).2 h.1,h.2⟩))
    have hcc:bb=false∨(bb=true∧ic≤m):=by
     cases bb
     ·exact .inl rfl
     ·exact .inr ⟨rfl,Int.not_lt.1 fun h=>cc ⟨rfl,h⟩⟩
    clear T1 T2 cc
    rcases hcc with rfl | ⟨rfl,e9⟩
    all_goals
     go_wp2_with fail
     go_roundw
     case rel=>exact ⟨j+1,_,by omega,by go_num,rfl,HT2,HB1,hs1⟩
     case measure=>simp [intOf]; omega
  ·have ej:j=l.length:=by omega
   subst ej
   go_wp2_with fail
   go_ret
   exact ⟨by rw [Q6 HS]; rfl,by rw [Q6 HM]; exact Q6 HB⟩
theorem Qkc (n:Nat) (h:n < 256):hiS n 1=one n:=by
 have e:n / 256 ^ 0 % 256=n:=by simp; omega
 show ⟨#[UInt8.ofNat (n / 256 ^ 0 % 256)]⟩++hiS n 0=_
 rw [e]
 rfl
theorem Qim (v:Int) (n:Nat) (w:World) (hv:v=(n:Int)) (hn:n < 256) :
  Calls Tryz.prog 50 #[.int .i64 v,.int .i64 1] w fun e w'=>e=.returned (.string (one n))∧Below w.heap.size w w' :=
 Qc3 v 1 n (one n) w hv (by omega) (by omega) (Qkc n hn)
set_option maxRecDepth 100000 in
set_option maxHeartbeats 2000000 in
theorem Q6H (s:ByteArray) (w:World) (h:s.size < 256):Calls Tryz.prog 62 #[.string s] w fun e w'=>e=.returned (.string (Qj s))∧Below w.heap.size w w':=by
 obtain ⟨r,hr⟩:∃ r,Qj s=r:=⟨_,rfl⟩
 have hr2:one s.size++s++Qm=r:=hr
 rw [hr]
 have key:=fun W=>Qim (s.size:Int) s.size W rfl h
 have h1:(one s.size).size=1:=rfl
 generalize one s.size=y at *
 have hz:(y++s).size=1+s.size:=by rw [ByteArray.size_append]; omega
 have HR:=Qa hr2
 have Key:=Qa key
 clear hr hr2 key
 go_enter Tryz.func62,Tryz.ntmps62
 go_wp2_with fail
 refine (Q6 Key _).mono ?_
 rintro e w1 ⟨rfl,hb1⟩
 go_wp2_with fail
 go_ret
 exact ⟨by rw [←Q6 HR]; rfl,hb1⟩
set_option maxHeartbeats 400000 in
theorem Q7I (nm dt:ByteArray) (t:Int) (w:World):Calls Tryz.prog 61 #[.string nm,.int .i64 t,.string dt] w fun e w'=>e=.returned (Q55 (Q04 nm t dt))∧Below w.heap.size w w':=by
 go_enter Tryz.func61,Tryz.ntmps61
 go_wp2_with fail
 refine bodyPost_ret (v:=.agg #[.string nm,.int .i64 t,.int .i64 1,.int .i64 30,.string dt]) (by simp [results,Tryz.results61,go_sem]) rfl ⟨rfl,?_⟩
 first | exact (Below.refl _ _).alloc (Nat.le_refl _) _ | exact Below.refl _ _
theorem Qgt (up:List Ev) (al:ByteArray) (t:Nat) (h:t < up.length):((up[up.length - 1 - t]'(by omega)).alias=al→Q3J up al (t+1)=(up[up.length - 1 - t]'(by omega)).node)∧((up[up.length - 1 - t]'(by omega)).alias≠al→Q3J up al (t+1)=Q3J up al t):=by
 have e:=Q4c (l:=up) (i:=up.length - 1 - t) (by omega)
 constructor
 ·intro hc
  conv=>lhs; unfold Q3J
  rw [e,if_pos hc]
 ·intro hc
  conv=>lhs; unfold Q3J
  rw [e,if_neg hc]
set_option maxRecDepth 100000 in
set_option maxHeartbeats 2000000 in
theorem Qee (up:List Ev) (al0:ByteArray) (a:Option Addr) (c N:Nat) (w:World) (hrow:RowAt w N a (evC up)) (hl:up.length≤33554432) :
  Calls Tryz.prog 100 #[.slice a up.length c,.string al0] w fun e w'=>e=.returned (.string (Q2L up al0))∧w'=w:=by
 have HRow:=Qa hrow
 have HT:=Qa (Qgt up al0)
 clear hrow
 obtain ⟨R,hR⟩:∃ R,Q2L up al0=R:=⟨_,rfl⟩
 have hR':=hR
 unfold Q2L at hR'
 rw [hR]
 have HR:=Qa hR'
 clear hR hR'
 go_enter Tryz.func100,Tryz.ntmps100
 go_wp2_with fail
 go_loop [5,6] (fun v vi=>∃ (t:Nat) (m:ByteArray),t≤up.length∧vi=.int .i64 ((up.length:Int) - 1 - t)∧v=.string m∧Hid (Q3J up al0 t=m)) (fun _ vi=>(intOf vi+1).toNat)
 case atStart=>exact ⟨0,_,Nat.zero_le _,by go_num,rfl,Qa rfl⟩
 case round =>
  obtain ⟨t,m,ht,rfl,rfl,HS⟩:=hrel
  by_cases ct:t < up.length
  ·obtain ⟨t1,t2⟩:=Q6 HT t ct
   rw [Q6 HS] at t2
   obtain ⟨b,o,rfl,hb,x0,x1,x2,x3,x4,x5,x6⟩:=Q2K (Q6 HRow) (up.length - 1 - t) (by omega)
   obtain ⟨i,hi⟩:∃ i,up.length - 1 - t=i:=⟨_,rfl⟩
   have hiI:(up.length:Int) - 1 - t=(i:Int):=by omega
   have T1:=Qa t1
   have T2:=Qa t2
   clear t1 t2
   generalize hk:up[up.length - 1 - t]'(by omega)=k at *
   rw [hi] at x0 x1 x2 x3 x4 x5 x6
   simp only [hiI]
   clear hk hi
   have HiI:=Qa hiI
   have hil:i < up.length:=by omega
   clear hiI
   obtain ⟨kd,nd,ic,ad,pt,tx,al⟩:=k
   simp only at x0 x1 x2 x3 x4 x5 x6 T1 T2
   by_cases ca:al=al0
   ·have f1:=Q1i ca
    have HT1:=Qa (Q6 T1 ca)
    clear ca T1 T2
    go_wp2_with fail
    go_round
    case rel=>exact ⟨t+1,_,by omega,by have:=Q6 HiI; go_num,rfl,HT1⟩
    case measure=>simp [intOf]
   ·have f1:=Q1w ca
    have HT2:=Qa (Q6 T2 ca)
    clear ca T1 T2
    go_wp2_with fail
    go_round
    case rel=>exact ⟨t+1,_,by omega,by have:=Q6 HiI; go_num,rfl,HT2⟩
    case measure=>simp [intOf]
  ·have et:t=up.length:=by omega
   subst et
   have hd:decide ((0:Int)≤(up.length:Int) - 1 - up.length)=false:=decide_eq_false (by omega)
   have hi9:(up.length:Int) - 1 - up.length=-1:=by omega
   simp only [hi9]
   clear hd hi9
   go_wp2_with fail
   go_loop [7] (fun vi=>∃ (j:Nat),j≤up.length∧vi=.int .i64 j∧Hid (∀ k (h:k < up.length),k < j→up[k].node≠al0)) (fun vi=>up.length - (intOf vi).toNat)
   case atStart=>exact ⟨0,Nat.zero_le _,rfl,Qa fun k _ hk=>by omega⟩
   case round =>
    obtain ⟨j,hj,rfl,HNo⟩:=hrel
    by_cases cj:j < up.length
    ·obtain ⟨b,o,rfl,hb,x0,x1,x2,x3,x4,x5,x6⟩:=Q2K (Q6 HRow) j cj
     by_cases cn:up[j].node=al0
     ·have hr:R=⟨#[]⟩:=by
       have:=Q6 HR
       rw [if_pos ⟨j,cj,by rw [Q4c cj]; exact cn⟩] at this
       exact this.symm
      have HR2:=Qa hr
      have f1:=Q1i cn
      clear hr cn
      generalize up[j].node=un at *
      go_wp2_with fail
      go_ret
      exact ⟨by rw [Q6 HR2]; rfl,rfl⟩
     ·have HNo2:Hid (∀ k (h:k < up.length),k < j+1→up[k].node≠al0):=Qa fun k hk hkj=>by
       by_cases e:k=j
       ·subst e; exact cn
       ·exact Q6 HNo k hk (by omega)
      have f1:=Q1w cn
      clear cn
      generalize up[j].node=un at *
      go_wp2_with fail
      go_round
      case rel=>exact ⟨j+1,by omega,by go_num,HNo2⟩
      case measure=>simp [intOf]; omega
    ·have hr:R=m:=by
      have:=Q6 HR
      rw [if_neg,Q6 HS] at this
      ·exact this.symm
      ·rintro ⟨k,hk,he⟩
       rw [Q4c hk] at he
       exact Q6 HNo k hk (by omega) he
     have HR2:=Qa hr
     clear hr
     go_wp2_with fail
     go_ret
     exact ⟨by rw [Q6 HR2]; rfl,rfl⟩
theorem QeD (up:List Ev) (last:ByteArray) (i:Nat) (h:i < up.length):((ltS last up[i].alias=true∧(Q0C up last i=⟨#[]⟩∨ltS up[i].alias (Q0C up last i)=true))→Q0C up last (i+1)=up[i].alias)∧(¬ (ltS last up[i].alias=true∧(Q0C up last i=⟨#[]⟩∨ltS up[i].alias (Q0C up last i)=true))→Q0C up last (i+1)=Q0C up last i):=by
 have e:=Q4c h
 constructor
 ·intro hc
  conv=>lhs; unfold Q0C
  rw [e,if_pos hc]
 ·intro hc
  conv=>lhs; unfold Q0C
  rw [e,if_neg hc]
theorem QhI {up:List Ev} {k:Nat} {O:List RI} {last:ByteArray} (h:Q1Z up k=(O,last)) (hb:Q0C up last up.length=⟨#[]⟩):Q1Z up (k+1)=(O,last):=by
 show Q37 up (Q1Z up k)=_
 rw [h]
 unfold Q37
 simp only
 rw [if_pos hb]
theorem QhK {up:List Ev} {k:Nat} {O:List RI} {last b:ByteArray} (h:Q1Z up k=(O,last)) (hb:Q0C up last up.length=b) (hne:b≠⟨#[]⟩):(Q2L up b=⟨#[]⟩→Q1Z up (k+1)=(O,b))∧(Q2L up b≠⟨#[]⟩→Q1Z up (k+1)=(O++[Q04 (Qj b) 5 (Qj (Q2L up b))],b)):=by
 have e:Q1Z up (k+1)=Q37 up (O,last):=by show Q37 up (Q1Z up k)=_; rw [h]
 rw [e]
 unfold Q37
 simp only
 rw [hb,if_neg hne]
 refine ⟨fun hc=>?_,fun hc=>?_⟩
 ·rw [if_pos hc]
 ·rw [if_neg hc]
set_option maxRecDepth 100000 in
set_option maxHeartbeats 4000000 in
theorem Qac (up:List Ev) (a:Option Addr) (c N:Nat) (w:World) (hrow:RowAt w N a (evC up)) (hN:N≤w.heap.size) (hl:up.length≤33554432) (hsz:∀ i (h:i < up.length),up[i].node.size≤15∧up[i].alias.size≤15) :
  Calls Tryz.prog 63 #[.slice a up.length c] w fun e w'=>Q2u w (Q1Z up up.length).1 e w':=by
 have HRow:=Qa hrow
 have HSz:=Qa hsz
 have HT:=Qa (QeD up)
 obtain ⟨i0,hi,hz0,hz1,hz2⟩:=info_parts Tryz.info61
 have Hi:=Qa hi
 have Hz0:=Qa hz0
 have Hz1:=Qa hz1
 have Hz2:=Qa hz2
 clear hi hz0 hz1 hz2 hrow hsz
 obtain ⟨M,hM⟩:∃ M,w.heap.size=M:=⟨_,rfl⟩
 have HM:=Qa hM
 have hs0:M≤w.heap.size:=by omega
 rw [hM] at hN
 clear hM
 go_enter Tryz.func63,Tryz.ntmps63
 go_wp2_with fail
 go_loopg [3,4,5] (up.length+1) (fun g vo vl vk w'=>∃ (k m:Nat) (O:List RI) (last:ByteArray) (ao:Option Addr) (co:Nat),vk=.int .i64 k∧k≤up.length∧g=up.length+1 - k∧vo=.slice ao m co∧m≤k∧vl=.string last∧Hid (O.length=m)∧Hid (Q1Z up k=(O,last))∧Hid (w'.ownsRow M 61 5 (.slice ao m co) m (rcI O))∧Hid (Below M w w')∧M≤w'.heap.size)
 case atStart=>exact ⟨0,0,[],⟨#[]⟩,none,0,rfl,Nat.zero_le _,rfl,rfl,Nat.le_refl _,rfl,Qa rfl,Qa rfl,Qa (World.ownsRow_nil _ _ _ _),Qa (Below.refl _ _),hs0⟩
 case round =>
  obtain ⟨k,m,O,last,ao,co,rfl,hk,rfl,rfl,hm,rfl,HOl,HU,HO,HB,hs⟩:=hrel
  by_cases ck:k < up.length
  ·have HrA:=Qa ((Q6 HRow).below ((Q6 HB).mono hN))
   have HT1:=Qa (Q6 HT last)
   go_wp2_with fail
   go_loop [6,7] (fun vb vi=>∃ (i:Nat),i≤up.length∧vi=.int .i64 i∧vb=.string (Q0C up last i)) (fun _ vi=>up.length - (intOf vi).toNat)
   case atStart=>exact ⟨0,Nat.zero_le _,rfl,rfl⟩
   case round =>
    obtain ⟨i,hi,rfl,rfl⟩:=hrel
    by_cases ci:i < up.length
    ·obtain ⟨b,o,rfl,hb,x0,x1,x2,x3,x4,x5,x6⟩:=Q2K (Q6 HrA) i ci
     obtain ⟨st1,st2⟩:=Q6 HT1 i ci
     have ST1:=Qa st1
     have ST2:=Qa st2
     clear st1 st2
     generalize Q0C up last i=be at *
     generalize up[i]=x at *
     obtain ⟨kd,nd,ic,ad,pt,tx,al⟩:=x
     simp only at x0 x1 x2 x3 x4 x5 x6 ST1 ST2
     cases hq:ltS last al with
     | true =>
      obtain ⟨f1,f2⟩:=Qkq hq
      by_cases cb:be=⟨#[]⟩
      ·have e0:be.toList.isEmpty=true:=(Q17 be).2 cb
       have HSt:=Qa (Q6 ST1 ⟨hq,.inl cb⟩)
       clear ST1 ST2 hq cb
       go_wp2_with fail
       refine ⟨⟨i+1,by omega,by go_num,by rw [Q6 HSt]⟩,by simp [intOf]; omega⟩
      ·have e0:be.toList.isEmpty=false:=by
        cases e:be.toList.isEmpty with
        | false=>rfl
        | true=>exact absurd ((Q17 be).1 e) cb
       cases hq2:ltS al be with
       | true =>
        have f3:Op.bytesLess al.toList be.toList=true:=hq2
        have HSt:=Qa (Q6 ST1 ⟨hq,.inr hq2⟩)
        clear ST1 ST2 hq hq2 cb
        go_wp2_with fail
        refine ⟨⟨i+1,by omega,by go_num,by rw [Q6 HSt]⟩,by simp [intOf]; omega⟩
       | false =>
        have f3:Op.bytesLess al.toList be.toList=false:=hq2
        have HSt:=Qa (Q6 ST2 (fun h=>by rcases h.2 with q | q; exact cb q; rw [hq2] at q; cases q))
        clear ST1 ST2 hq hq2 cb
        go_wp2_with fail
        refine ⟨⟨i+1,by omega,by go_num,by rw [Q6 HSt]⟩,by simp [intOf]; omega⟩
     | false =>
      have HSt:=Qa (Q6 ST2 (fun h=>by rw [hq] at h; cases h.1))
      have hle:=leS hq
      clear ST1 ST2 hq
      rcases hle with f1 | ⟨f1,f2⟩
      ·go_wp2_with fail
       refine ⟨⟨i+1,by omega,by go_num,by rw [Q6 HSt]⟩,by simp [intOf]; omega⟩
      ·go_wp2_with fail
       refine ⟨⟨i+1,by omega,by go_num,by rw [Q6 HSt]⟩,by simp [intOf]; omega⟩
    ·have ei:i=up.length:=by omega
     subst ei
     obtain ⟨be,hbe⟩:∃ be,Q0C up last up.length=be:=⟨_,rfl⟩
     rw [hbe]
     by_cases cb:be=⟨#[]⟩
     ·have e0:be.toList.isEmpty=true:=(Q17 be).2 cb
      have HSt:=Qa (QhI (Q6 HU) (hbe.trans cb))
      clear cb hbe
      go_wp2_with fail
      go_roundg (up.length+1 - (k+1))
      case measure=>omega
      case rel=>exact ⟨k+1,m,O,last,ao,co,by go_num,by omega,rfl,rfl,by omega,rfl,HOl,HSt,HO,HB,hs⟩
     ·have e0:be.toList.isEmpty=false:=by
       cases e:be.toList.isEmpty with
       | false=>rfl
       | true=>exact absurd ((Q17 be).1 e) cb
      obtain ⟨s1,s2⟩:=QhK (Q6 HU) hbe cb
      have hbz:be.size≤15:=by
       obtain ⟨⟨q,hq,eq⟩,_,_⟩:=Q5s up.length (by rw [hbe]; exact cb)
       rw [hbe,Q4c hq] at eq
       rw [←eq]
       exact (Q6 HSz q hq).2
      have hnz:(Q2L up be).size≤15:=by
       unfold Q2L
       split
       ·exact Nat.zero_le _
       ·have:∀ t,t≤up.length→(Q3J up be t).size≤15:=by
         intro t
         induction t with
         | zero=>intro _; exact Nat.zero_le _
         | succ t ih =>
          intro ht
          unfold Q3J
          split
          ·rw [Q4c (by omega)]; exact (Q6 HSz _ (by omega)).1
          ·exact ih (by omega)
        exact this _ (Nat.le_refl _)
      have S1:=Qa s1
      have S2:=Qa s2
      have key:=Qee up be a c N wr (Q6 HrA) hl
      generalize Q2L up be=nd at *
      have Key:=Qa key
      clear s1 s2 key hbe cb
      go_wp2_with fail
      refine (Q6 Key).mono ?_
      rintro e w1 ⟨rfl,rfl⟩
      by_cases cn:nd=⟨#[]⟩
      ·have e1:nd.toList.isEmpty=true:=(Q17 nd).2 cn
       have HSt:=Qa (Q6 S1 cn)
       clear cn S1 S2
       go_wp2_with fail
       go_roundg (up.length+1 - (k+1))
       case measure=>omega
       case rel=>exact ⟨k+1,m,O,be,ao,co,by go_num,by omega,rfl,rfl,by omega,rfl,HOl,HSt,HO,HB,hs⟩
      ·have e1:nd.toList.isEmpty=false:=by
        cases e:nd.toList.isEmpty with
        | false=>rfl
        | true=>exact absurd ((Q17 nd).1 e) cn
       have HSt:=Qa (Q6 S2 cn)
       clear cn S1 S2
       have k1:=fun W=>Q6H be W (by omega)
       have k2:=fun W=>Q6H nd W (by omega)
       generalize Qj be=ub at *
       generalize Qj nd=un at *
       have K1:=Qa k1
       have K2:=Qa k2
       clear k1 k2
       go_wp2_with fail
       refine (Q6 K1 _).mono ?_
       rintro e w2 ⟨rfl,hb2⟩
       have HO2:=Qa (Qk (Q6 HO) hb2)
       have HB2:=Qa ((Q6 HB).trans (hb2.mono hs))
       have hs2:M≤w2.heap.size:=Nat.le_trans hs hb2.size
       clear hb2
       go_wp2_with fail
       refine (Q6 K2 _).mono ?_
       rintro e w3 ⟨rfl,hb3⟩
       have HO3:=Qa (Qk (Q6 HO2) hb3)
       have HB3:=Qa ((Q6 HB2).trans (hb3.mono hs2))
       have hs3:M≤w3.heap.size:=Nat.le_trans hs2 hb3.size
       clear hb3
       go_wp2_with fail
       refine (Q7I ub un 5 _).mono ?_
       rintro e w4 ⟨rfl,hb4⟩
       have HO4:=Qa (Qk (Q6 HO3) hb4)
       have HB4:=Qa ((Q6 HB3).trans (hb4.mono hs3))
       have hs4:M≤w4.heap.size:=Nat.le_trans hs3 hb4.size
       clear hb4
       unfold Q55 Q04
       simp only
       go_wp2_with (at_builtin; refine Qe _ rfl _ _ 27 27 rfl M 61 i0 (.agg #[.string ⟨#[]⟩,.int .i64 0,.int .i64 0,.int .i64 0,.string ⟨#[]⟩]) 5 56 Tryz.underlying27 (Q6 Hi) (Q6 Hz0) (Q6 Hz1) (Q6 Hz2) rfl (.slice ao m co) m (rcI O) (by rfl) ((Q6 HO4).alloc _) (.slice (some ⟨w4.heap.size,0,none⟩) 1 1) 1 [.string ub,.int .i64 5,.int .i64 1,.int .i64 30,.string un] (by rfl) (Src.ofSlice _ Tryz.underlying27 ⟨w4.heap.size,0,none⟩ 1 1 _ rfl (Q0E _ _ _ _ _ _ _ _ rfl) Qa1) (by unfold maxLen; omega) (by omega) (by simp; omega) ?_; intro a5 e5 w5 hown5 hgrow5 hat5)
       go_roundg (up.length+1 - (k+1))
       case measure=>omega
       case rel =>
        have hA:=(Below.refl M w4).alloc hs4 (.cells #[.string ub,.int .i64 5,.int .i64 1,.int .i64 30,.string un] 61)
        have hB5:=Qn ((Q6 HO4).alloc _) hgrow5 (Nat.le_trans hs4 hA.size)
        refine ⟨k+1,m+1,_,be,a5,e5,by go_num,by omega,rfl,rfl,by omega,rfl,Qa ?_,HSt,Qa ?_,Qa ((Q6 HB4).trans (hA.trans hB5)),Nat.le_trans hs4 (Nat.le_trans hA.size hB5.size)⟩
        ·rw [List.length_append,Q6 HOl]; rfl
        ·rw [Q2O]; exact hown5
  ·have ek:k=up.length:=by omega
   subst ek
   have hw:Q2u w (Q1Z up up.length).1 (.returned (.slice ao m co)) wr:=by
    rw [Q6 HU]
    exact ⟨ao,co,by rw [Q6 HOl],by rw [Q6 HOl,Q6 HM]; exact Q6 HO,by rw [Q6 HM]; exact Q6 HB⟩
   have HW:=Qa hw
   clear hw
   go_wp2_with fail
   go_ret
   exact Q6 HW
end Go.Proofs.YtdhobdmhnocbgabGreatDoor
