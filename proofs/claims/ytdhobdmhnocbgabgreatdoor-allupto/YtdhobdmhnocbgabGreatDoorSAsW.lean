import Derived.Test.YtdhobdmhnocbgabGreatDoorSWaG
import Derived.Test.YtdhobdmhnocbgabGreatDoorSQuE
import Derived.Test.YtdhobdmhnocbgabGreatDoorSRefE
import Derived.Test.YtdhobdmhnocbgabGreatDoorSWaP
import Derived.Test.YtdhobdmhnocbgabGreatDoorSZwG
import Derived.Test.YtdhobdmhnocbgabGreatDoorSOpnE
import Derived.Test.YtdhobdmhnocbgabGreatDoorSSiW
namespace Go.Proofs.YtdhobdmhnocbgabGreatDoor
open Go.RowKit Zr
theorem QeK {l:List RI} {j:Nat} (h:j < l.length) (h1:(l.take j).find? (fun x=>decide (x.ty=41))=none) (h2:l[j].ty=41):Q12 l=some l[j]:=by
 unfold Q12
 have e:l=l.take j++l[j] :: l.drop (j+1):=by rw [←List.drop_eq_getElem_cons h,List.take_append_drop]
 conv=>lhs; rw [e]
 rw [List.find?_append,h1,Option.none_or,List.find?_cons_of_pos (by simpa using h2)]
theorem QeL {l:List RI} {j:Nat} (h:j < l.length) (h1:(l.take j).find? (fun x=>decide (x.ty=41))=none) (h2:l[j].ty≠41):(l.take (j+1)).find? (fun x=>decide (x.ty=41))=none:=by
 rw [List.take_succ_eq_append_getElem h,List.find?_append,h1]
 simp [h2]
def QmA (l:List RI) (e:Ending):Prop:=∃ r:RI,e=.returned (.tuple #[.agg #[.string r.name,.int .i64 r.ty,.int .i64 r.cl,.int .i64 r.ttl,.string r.data],.bool (Q12 l).isSome])∧(∀ o,Q12 l=some o→r=o)∧(Q12 l=none→r=⟨⟨#[]⟩,0,0,0,⟨#[]⟩⟩)
set_option maxRecDepth 100000 in
set_option maxHeartbeats 2000000 in
theorem QiR (i f:Int) (a1:Option Addr) (n1 c1:Nat) (a2:Option Addr) (n2 c2:Nat) (a3:Option Addr) (n3 c3:Nat) (a4:Option Addr) (c4:Nat) (l:List RI) (N:Nat) (w:World) (hr:RowAt w N a4 (rcI l)) (hN:N≤w.heap.size) (hc2:l.length≤70000) :
  Calls Tryz.prog 71 #[.agg #[.int .i64 i,.int .i64 f,.slice a1 n1 c1,.slice a2 n2 c2,.slice a3 n3 c3,.slice a4 l.length c4]] w fun e w'=>QmA l e∧Below w.heap.size w w':=by
 have hBW:=((Below.refl w.heap.size w).alloc (Nat.le_refl _) (.cells #[.int .i64 i,.int .i64 f,.slice a1 n1 c1,.slice a2 n2 c2,.slice a3 n3 c3,.slice a4 l.length c4] 32)).alloc (by simp) (.cells #[.string ⟨#[]⟩,.int .i64 0,.int .i64 0,.int .i64 0,.string ⟨#[]⟩] 61)
 obtain ⟨hm,hrb⟩:=Q2f w (.cells #[.int .i64 i,.int .i64 f,.slice a1 n1 c1,.slice a2 n2 c2,.slice a3 n3 c3,.slice a4 l.length c4] 32) (.cells #[.string ⟨#[]⟩,.int .i64 0,.int .i64 0,.int .i64 0,.string ⟨#[]⟩] 61)
 have HBW:=Qa hBW
 have HM:=Qa hm
 have HR:=Qa hrb
 have HRow:=Qa (hr.below (hBW.mono hN))
 have HYes:Hid (∀ j (h:j < l.length),(l.take j).find? (fun x=>decide (x.ty=41))=none→l[j].ty=41→Q12 l=some l[j]):=fun j h h1 h2=>QeK h h1 h2
 have HStp:Hid (∀ j (h:j < l.length),(l.take j).find? (fun x=>decide (x.ty=41))=none→l[j].ty≠41→(l.take (j+1)).find? (fun x=>decide (x.ty=41))=none):=fun j h h1 h2=>QeL h h1 h2
 clear hBW hm hrb hr
 go_enter Tryz.func71,Tryz.ntmps71
 go_wp2_with fail
 generalize (w.alloc (.cells #[.int .i64 i,.int .i64 f,.slice a1 n1 c1,.slice a2 n2 c2,.slice a3 n3 c3,.slice a4 l.length c4] 32)).alloc (.cells #[.string ⟨#[]⟩,.int .i64 0,.int .i64 0,.int .i64 0,.string ⟨#[]⟩] 61)=W at *
 go_loopg [4] (l.length+1) (fun g vi w'=>∃ j:Nat,vi=.int .i64 j∧j≤l.length∧g=l.length+1 - j∧Hid ((l.take j).find? (fun x=>decide (x.ty=41))=none)∧w'=W)
 case atStart=>exact ⟨0,rfl,Nat.zero_le _,rfl,Qa rfl,rfl⟩
 case round =>
  obtain ⟨j,rfl,hj,rfl,HN,rfl⟩:=hrel
  obtain ⟨⟨m0,m1,m2,m3,m4,m5⟩,_⟩:=Qh (Q6 HM)
  obtain ⟨⟨r0,r1,r2,r3,r4⟩,s0,s1,s2,s3,s4⟩:=Q1a (Q6 HR)
  have lM:=Qb (Q6 HM)
  have lR:=Qb (Q6 HR)
  by_cases cj:j < l.length
  ·obtain ⟨b,o,hab,hb,x0,x1,x2,x3,x4⟩:=Q2R (Q6 HRow) j cj
   subst hab
   have hy:=Q6 HYes j cj (Q6 HN)
   have hs:=Q6 HStp j cj (Q6 HN)
   obtain ⟨q,hq⟩:∃ q,l[j]=q:=⟨_,rfl⟩
   rw [hq] at x0 x1 x2 x3 x4 hy hs
   obtain ⟨nm,ty,cl,ttl,dt⟩:=q
   simp only at x0 x1 x2 x3 x4 hy hs
   have HY:=Qa hy
   have HS:=Qa hs
   clear hy hs hq
   by_cases ct:ty=41
   ·subst ct
    have hopt:=Q6 HY rfl
    have HOpt:=Qa hopt
    clear hopt HY HS
    have hcell:=Qau (Q6 HR) (.string nm) (.int .i64 41) (.int .i64 cl) (.int .i64 ttl) (.string dt)
    have hb9:=((((((Q6 HBW).setCell (p:=⟨w.heap.size+1,0,none⟩) (by show w.heap.size≤w.heap.size+1; omega) (.string nm)).setCell (p:=⟨w.heap.size+1,1,none⟩) (by show w.heap.size≤w.heap.size+1; omega) (.int .i64 41)).setCell (p:=⟨w.heap.size+1,2,none⟩) (by show w.heap.size≤w.heap.size+1; omega) (.int .i64 cl)).setCell (p:=⟨w.heap.size+1,3,none⟩) (by show w.heap.size≤w.heap.size+1; omega) (.int .i64 ttl)).setCell (p:=⟨w.heap.size+1,4,none⟩) (by show w.heap.size≤w.heap.size+1; omega) (.string dt))
    have HCell:=Qa hcell
    have HB9:=Qa hb9
    clear hcell hb9
    go_wp2_with fail
    have hk9:=Q6 HCell
    have hb9:=Q6 HB9
    clear HCell HB9
    generalize (((((wr.setCell ⟨w.heap.size+1,0,none⟩ (.string nm)).setCell ⟨w.heap.size+1,1,none⟩ (.int .i64 41)).setCell ⟨w.heap.size+1,2,none⟩ (.int .i64 cl)).setCell ⟨w.heap.size+1,3,none⟩ (.int .i64 ttl)).setCell ⟨w.heap.size+1,4,none⟩ (.string dt))=W9 at *
    obtain ⟨⟨k0,k1,k2,k3,k4⟩,_⟩:=Q1a hk9
    refine bodyPost_ret (v:=.tuple #[.agg #[.string nm,.int .i64 41,.int .i64 cl,.int .i64 ttl,.string dt],.bool true]) (by simp [results,Tryz.results71,go_sem,k0,k1,k2,k3,k4]) rfl ?_
    refine ⟨⟨⟨nm,41,cl,ttl,dt⟩,?_,fun o h=>?_,fun h=>?_⟩,hb9⟩
    ·rw [Q6 HOpt]; rfl
    ·rw [Q6 HOpt] at h; cases h; rfl
    ·rw [Q6 HOpt] at h; cases h
   ·have f1:(ty == 41)=false:=by rw [beq_eq_false_iff_ne]; exact ct
    have HN2:=Qa (Q6 HS ct)
    clear ct HY HS
    go_wp2_with fail
    go_roundg (l.length+1 - (j+1))
    case measure=>omega
    case rel=>exact ⟨j+1,by go_num,by omega,rfl,HN2,rfl⟩
  ·have ej:j=l.length:=by omega
   subst ej
   have hno:=Q6 HN
   rw [List.take_length] at hno
   have HNo:Hid (Q12 l=none):=hno
   clear hno
   have hcell:=Qau (Q6 HR) (.string ⟨#[]⟩) (.int .i64 0) (.int .i64 0) (.int .i64 0) (.string ⟨#[]⟩)
   have hb9:=((((((Q6 HBW).setCell (p:=⟨w.heap.size+1,0,none⟩) (by show w.heap.size≤w.heap.size+1; omega) (.string ⟨#[]⟩)).setCell (p:=⟨w.heap.size+1,1,none⟩) (by show w.heap.size≤w.heap.size+1; omega) (.int .i64 0)).setCell (p:=⟨w.heap.size+1,2,none⟩) (by show w.heap.size≤w.heap.size+1; omega) (.int .i64 0)).setCell (p:=⟨w.heap.size+1,3,none⟩) (by show w.heap.size≤w.heap.size+1; omega) (.int .i64 0)).setCell (p:=⟨w.heap.size+1,4,none⟩) (by show w.heap.size≤w.heap.size+1; omega) (.string ⟨#[]⟩))
   have HCell:=Qa hcell
   have HB9:=Qa hb9
   clear hcell hb9
   go_wp2_with fail
   have hk9:=Q6 HCell
   have hb9:=Q6 HB9
   clear HCell HB9
   generalize (((((wr.setCell ⟨w.heap.size+1,0,none⟩ (.string ⟨#[]⟩)).setCell ⟨w.heap.size+1,1,none⟩ (.int .i64 0)).setCell ⟨w.heap.size+1,2,none⟩ (.int .i64 0)).setCell ⟨w.heap.size+1,3,none⟩ (.int .i64 0)).setCell ⟨w.heap.size+1,4,none⟩ (.string ⟨#[]⟩))=W9 at *
   obtain ⟨⟨k0,k1,k2,k3,k4⟩,_⟩:=Q1a hk9
   refine bodyPost_ret (v:=.tuple #[.agg #[.string ⟨#[]⟩,.int .i64 0,.int .i64 0,.int .i64 0,.string ⟨#[]⟩],.bool false]) (by simp [results,Tryz.results71,go_sem,k0,k1,k2,k3,k4]) rfl ?_
   refine ⟨⟨⟨⟨#[]⟩,0,0,0,⟨#[]⟩⟩,?_,fun o h=>?_,fun h=>rfl⟩,hb9⟩
   ·rw [Q6 HNo]; rfl
   ·rw [Q6 HNo] at h; cases h
theorem Qbw {l:List RI} {r:RI} (h1:∀ o,Q12 l=some o→r=o) (h2:Q12 l=none→r=⟨⟨#[]⟩,0,0,0,⟨#[]⟩⟩) (hl:∀ x,x∈l→0≤x.cl∧0≤x.ttl):r.cl=((Q28 l:Nat):Int)∧r.ttl=((Q2j l:Nat):Int)∧((Q12 l).isSome=false→r.cl=0):=by
 unfold Q28 Q2j
 cases h:Q12 l with
 | none =>
  rw [h2 h]
  exact ⟨rfl,rfl,fun _=>rfl⟩
 | some o =>
  rw [h1 o h]
  have hm:o∈l:=List.mem_of_find?_eq_some h
  obtain ⟨q1,q2⟩:=hl o hm
  refine ⟨by show o.cl=((o.cl.toNat:Nat):Int); omega,by show o.ttl=((o.ttl.toNat:Nat):Int); omega,fun q=>by cases q⟩
set_option maxRecDepth 100000 in
set_option maxHeartbeats 2000000 in
theorem Qf0 (i f:Int) (a1:Option Addr) (n1 c1:Nat) (a2:Option Addr) (n2 c2:Nat) (a3:Option Addr) (n3 c3:Nat) (a4:Option Addr) (c4:Nat) (l:List RI) (stream:Bool) (N:Nat) (w:World) (hr:RowAt w N a4 (rcI l)) (hN:N≤w.heap.size) (hc2:l.length≤70000) (hl:∀ x,x∈l→0≤x.cl∧0≤x.ttl) :
  Calls Tryz.prog 72 #[.agg #[.int .i64 i,.int .i64 f,.slice a1 n1 c1,.slice a2 n2 c2,.slice a3 n3 c3,.slice a4 l.length c4],.bool stream] w fun e w'=>e=.returned (.int .i64 (Q4v (Q28 l) stream:Nat))∧Below w.heap.size w w':=by
 have hBW:=(Below.refl w.heap.size w).alloc (Nat.le_refl _) (.cells #[.int .i64 i,.int .i64 f,.slice a1 n1 c1,.slice a2 n2 c2,.slice a3 n3 c3,.slice a4 l.length c4] 32)
 have HBW:=Qa hBW
 have KO:=Qa (QiR i f a1 n1 c1 a2 n2 c2 a3 n3 c3 a4 c4 l N _ (hr.below (hBW.mono hN)) (Nat.le_trans hN hBW.size) hc2)
 have HM:=Qa (heap_alloc_new w (.cells #[.int .i64 i,.int .i64 f,.slice a1 n1 c1,.slice a2 n2 c2,.slice a3 n3 c3,.slice a4 l.length c4] 32))
 clear hBW hr
 cases stream with
 | true =>
  go_enter Tryz.func72,Tryz.ntmps72
  go_wp2_with fail
  go_ret
  exact ⟨rfl,Q6 HBW⟩
 | false =>
  obtain ⟨⟨m0,m1,m2,m3,m4,m5⟩,_⟩:=Qh (Q6 HM)
  have lM:=Qb (Q6 HM)
  obtain ⟨lim,hlim⟩:∃ lim,Q4v (Q28 l) false=lim:=⟨_,rfl⟩
  have HLim:Hid ((if Q28 l < 512 then 512 else if 4096 < Q28 l then 4096 else Q28 l)=lim):=hlim
  rw [hlim]
  clear hlim
  go_enter Tryz.func72,Tryz.ntmps72
  go_wp2_with fail
  clear m0 m1 m2 m3 m4 m5 lM HM
  generalize w.alloc (.cells #[.int .i64 i,.int .i64 f,.slice a1 n1 c1,.slice a2 n2 c2,.slice a3 n3 c3,.slice a4 l.length c4] 32)=w1 at *
  refine (Q6 KO).mono ?_
  rintro e w2 ⟨⟨⟨rn,rt,rc,rl,rd⟩,rfl,h1,h2⟩,hb2⟩
  obtain ⟨k1,k2,k3⟩:=Qbw h1 h2 hl
  clear k2
  simp only at k1 k3
  subst k1
  have HB2:=Qa ((Q6 HBW).trans (hb2.mono (Q6 HBW).size))
  obtain ⟨has,hhas⟩:∃ has,(Q12 l).isSome=has:=⟨_,rfl⟩
  rw [hhas] at k3 ⊢
  generalize Q28 l=cc at *
  clear h1 h2 hb2 KO hhas HBW
  cases has with
  | false =>
   have hz:=k3 rfl
   have hz2:cc=0:=by omega
   subst hz2
   have hl9:=Q6 HLim
   rw [if_pos (by omega)] at hl9
   subst hl9
   go_wp2_with fail
   go_ret
   exact ⟨rfl,(Q6 HB2).alloc (Q6 HB2).size _⟩
  | true =>
   clear k3
   by_cases q1:cc < 512
   ·have hl9:=Q6 HLim
    rw [if_pos q1] at hl9
    subst hl9
    have f1:decide ((cc:Int) < 512)=true:=decide_eq_true (by omega)
    go_wp2_with fail
    go_ret
    exact ⟨rfl,(Q6 HB2).alloc (Q6 HB2).size _⟩
   ·have hl9:=Q6 HLim
    rw [if_neg q1] at hl9
    have f1:decide ((cc:Int) < 512)=false:=decide_eq_false (by omega)
    by_cases q2:4096 < cc
    ·rw [if_pos q2] at hl9
     subst hl9
     have f2:decide ((4096:Int) < (cc:Int))=true:=decide_eq_true (by omega)
     go_wp2_with fail
     go_ret
     exact ⟨rfl,(Q6 HB2).alloc (Q6 HB2).size _⟩
    ·rw [if_neg q2] at hl9
     subst hl9
     have f2:decide ((4096:Int) < (cc:Int))=false:=decide_eq_false (by omega)
     go_wp2_with fail
     go_ret
     exact ⟨rfl,(Q6 HB2).alloc (Q6 HB2).size _⟩
theorem Qiw (A B:Nat) (hA:A < 16) (hB:B < 2):32768 ||| (A * 2048 ||| B * 256)=32768+2048 * A+256 * B:=by
 have e1:A * 2048 ||| B * 256=2048 * A+256 * B:=by
  have:=Nat.two_pow_add_eq_or_of_lt (i:=11) (b:=B * 256) (by omega) A
  rw [Nat.mul_comm A 2048,←this,Nat.mul_comm 256 B]
 have e2:=Nat.two_pow_add_eq_or_of_lt (i:=15) (b:=2048 * A+256 * B) (by omega) 1
 rw [e1]
 have e3:(2:Nat) ^ 15 * 1=32768:=by decide
 rw [e3] at e2
 omega
theorem QfJ (f:Nat):32768 ||| (f &&& 30976)=32768+2048 * (f % 32768 / 2048)+256 * (f / 256 % 2):=by
 have e0:(30976:Nat)=30720 ||| 256:=by decide
 have e2:f &&& 30720=f % 32768 / 2048 * 2048:=nat_midmask 15 11 f (by decide)
 have e3:f &&& 256=f % 512 / 256 * 256:=nat_midmask 9 8 f (by decide)
 have hb:f % 512 / 256=f / 256 % 2:=by omega
 rw [e0,Nat.and_or_distrib_left,e2,e3,hb]
 exact Qiw _ _ (by omega) (by omega)
theorem Qml (f:Nat):(f &&& 30720=0)↔f % 32768 / 2048=0:=by
 have e2:f &&& 30720=f % 32768 / 2048 * 2048:=nat_midmask 15 11 f (by decide)
 rw [e2]
 omega
set_option maxRecDepth 100000 in
set_option maxHeartbeats 2000000 in
theorem QdB (b:ByteArray) (w:World) (hb:b.size≤maxLen) :
  Calls Tryz.prog 66 #[.string b] w fun e w'=>(∃ r,e=.returned (.bool r)∧(r=true↔QaJ b))∧w'=w:=by
 unfold maxLen at hb
 by_cases c1:b.size < 12
 ·have f1:decide ((b.size:Int) < 12)=true:=decide_eq_true (by omega)
  go_enter Tryz.func66,Tryz.ntmps66
  go_wp2_with fail
  go_ret
  exact ⟨⟨true,rfl,by simp [QaJ,c1]⟩,rfl⟩
 ·have f1:decide ((b.size:Int) < 12)=false:=decide_eq_false (by omega)
  by_cases c2:65535 < b.size
  ·have f2:decide ((65535:Int) < (b.size:Int))=true:=decide_eq_true (by omega)
   go_enter Tryz.func66,Tryz.ntmps66
   go_wp2_with fail
   go_ret
   exact ⟨⟨true,rfl,by simp [QaJ,c2]⟩,rfl⟩
  ·have f2:decide ((65535:Int) < (b.size:Int))=false:=decide_eq_false (by omega)
   have kh:=Q4s b 1 w (by omega) (by omega) (by omega) (by omega)
   have hn:num b 2 2=256 * bt b 2+bt b 3:=Qda b 2
   have hl3:=Q20 b 3
   have KH:=Qa kh
   have HMu:Hid (decide ((32768:Int)≤(num b 2 2:Int))=true↔QaJ b):=by
    show decide ((32768:Int)≤(num b 2 2:Int))=true↔QaJ b
    rw [decide_eq_true_iff,hn]
    constructor
    ·intro h
     exact .inr (.inr (by omega))
    ·rintro (h | h | h)
     ·omega
     ·omega
     ·omega
   clear kh hn
   go_enter Tryz.func66,Tryz.ntmps66
   go_wp2_with fail
   refine (Q6 KH).mono ?_
   rintro e w1 ⟨rfl,rfl⟩
   go_wp2_with fail
   go_ret
   exact ⟨⟨_,rfl,Q6 HMu⟩,rfl⟩
theorem Qf1 (f s:Nat) (q:QI):Q1o f s q=if f % 32768 / 2048≠0 then 4 else if s / 65536 % 256≠0 then 16 else if q.cl≠1∨Q06 (Q1h q.name) Qm 0=false then 5 else 0:=by
 unfold Q1o
 have hop:=Qml f
 by_cases k:f &&& 30720=0
 ·have k2:¬ (f &&& 30720≠0):=fun h=>h k
  have k3:¬ (f % 32768 / 2048≠0):=fun h=>h (hop.1 k)
  rw [if_neg k2,if_neg k3]
 ·have k3:f % 32768 / 2048≠0:=fun h=>k (hop.2 h)
  rw [if_pos k,if_pos k3]
def Q8Z (f s:Nat) (q:QI):Int:=if f % 32768 / 2048≠0 then 4 else if s / 65536 % 256≠0 then 16 else if q.cl≠1∨Q06 (Q1h q.name) Qm 0=false then 5 else -1
theorem Qjq (f s:Nat) (q:QI):Q8Z f s q=if Q1o f s q=0 then -1 else ((Q1o f s q:Nat):Int):=by
 rw [Qf1]
 unfold Q8Z
 by_cases k1:f % 32768 / 2048≠0
 ·rw [if_pos k1,if_pos k1]; rfl
 ·rw [if_neg k1,if_neg k1]
  by_cases k2:s / 65536 % 256≠0
  ·rw [if_pos k2,if_pos k2]; rfl
  ·rw [if_neg k2,if_neg k2]
   by_cases k3:q.cl≠1∨Q06 (Q1h q.name) Qm 0=false
   ·rw [if_pos k3,if_pos k3]; rfl
   ·rw [if_neg k3,if_neg k3]; rfl
set_option maxRecDepth 100000 in
set_option maxHeartbeats 2000000 in
theorem Qjt (i:Int) (fl:Nat) (q:QI) (a1:Option Addr) (c1:Nat) (a2:Option Addr) (n2 c2:Nat) (a3:Option Addr) (n3 c3:Nat) (a4:Option Addr) (c4:Nat) (l:List RI) (N:Nat) (w:World) (hr1:RowAt w N a1 (qcI [q])) (hr4:RowAt w N a4 (rcI l)) (hN:N≤w.heap.size) (hc2:l.length≤70000) (hl:∀ x,x∈l→0≤x.cl∧0≤x.ttl) (hf6:fl < 65536) (hqo:Q09 q.name=true) (hl6:Q2j l < 4294967296) :
  Calls Tryz.prog 68 #[.agg #[.int .i64 i,.int .i64 fl,.slice a1 1 c1,.slice a2 n2 c2,.slice a3 n3 c3,.slice a4 l.length c4]] w fun e w'=>e=.returned (.int .i64 (Q8Z fl (Q2j l) q))∧Below w.heap.size w w':=by
 have hBW:=(Below.refl w.heap.size w).alloc (Nat.le_refl _) (.cells #[.int .i64 i,.int .i64 fl,.slice a1 1 c1,.slice a2 n2 c2,.slice a3 n3 c3,.slice a4 l.length c4] 32)
 have hM:=heap_alloc_new w (.cells #[.int .i64 i,.int .i64 fl,.slice a1 1 c1,.slice a2 n2 c2,.slice a3 n3 c3,.slice a4 l.length c4] 32)
 have KO:=Qa (QiR i fl a1 1 c1 a2 n2 c2 a3 n3 c3 a4 c4 l N _ (hr4.below (hBW.mono hN)) (Nat.le_trans hN hBW.size) hc2)
 have HR1:=Qa hr1
 have HBW:=Qa hBW
 have HM:=Qa hM
 have KSm:=Qa (fun W=>Qad q.name W (by have:=Q1j hqo; omega))
 have HTl:=Qa (Qig (QdN q.name) ((Q3k _).1 hqo).1)
 obtain ⟨r,hrr⟩:∃ r,Q8Z fl (Q2j l) q=r:=⟨_,rfl⟩
 have HRf:Hid ((if fl % 32768 / 2048≠0 then (4:Int) else if Q2j l / 65536 % 256≠0 then 16 else if q.cl≠1∨Q06 (Q1h q.name) Qm 0=false then 5 else -1)=r):=hrr
 rw [hrr]
 obtain ⟨⟨m0,m1,m2,m3,m4,m5⟩,_⟩:=Qh hM
 have lM:=Qb hM
 clear hrr hM hBW hr1 hr4
 by_cases k1:fl % 32768 / 2048=0
 ·have f1:((fl:Int) % 32768 / 2048 != 0)=false:=by rw [bne_eq_false_iff_eq]; omega
  have hr9:=Q6 HRf
  rw [if_neg (fun h=>h k1)] at hr9
  have HRg:=Qa hr9
  clear HRf hr9 k1
  go_enter Tryz.func68,Tryz.ntmps68
  go_wp2_with fail
  refine (Q6 KO).mono ?_
  rintro e w2 ⟨⟨⟨rn,rt,rc,rl,rd⟩,rfl,h1,h2⟩,hb2⟩
  have k2:=(Qbw h1 h2 hl).2.1
  simp only at k2
  subst k2
  have hB2:=(Q6 HBW).trans (hb2.mono (Q6 HBW).size)
  have hB3:=hB2.alloc hB2.size (.cells #[.string rn,.int .i64 rt,.int .i64 rc,.int .i64 ((Q2j l:Nat):Int),.string rd] 61)
  have hM3:=((hb2.alloc hb2.size (.cells #[.string rn,.int .i64 rt,.int .i64 rc,.int .i64 ((Q2j l:Nat):Int),.string rd] 61)).block _ lM).trans (Q6 HM)
  have hO3:=heap_alloc_new w2 (.cells #[.string rn,.int .i64 rt,.int .i64 rc,.int .i64 ((Q2j l:Nat):Int),.string rd] 61)
  clear m0 m1 m2 m3 m4 m5 lM HM KO hb2 HBW h1 h2
  generalize (Q12 l).isSome=has at *
  generalize w.alloc (.cells #[.int .i64 i,.int .i64 fl,.slice a1 1 c1,.slice a2 n2 c2,.slice a3 n3 c3,.slice a4 l.length c4] 32)=w1 at *
  generalize Q2j l=life at *
  obtain ⟨b,o,hab,hb,x0,_,x2⟩:=Q6T ((Q6 HR1).below (hB3.mono hN)) 0 (by simp)
  simp only [List.getElem_cons_zero,Nat.zero_mul,Nat.add_zero] at x0 x2
  subst hab
  obtain ⟨⟨m0,m1,m2,m3,m4,m5⟩,_⟩:=Qh hM3
  obtain ⟨⟨o0,o1,o2,o3,o4⟩,_⟩:=Q1a hO3
  have lM:=Qb hM3
  have lO:=Qb hO3
  have HB3:=Qa hB3
  have HM3:=Qa hM3
  clear hB2 hB3 hM3 hO3
  by_cases k2:life / 65536 % 256=0
  ·have f2:((life:Int) / 65536 % 256 != 0)=false:=by rw [bne_eq_false_iff_eq]; omega
   have hr9:=Q6 HRg
   rw [if_neg (fun h=>h k2)] at hr9
   have HRh:=Qa hr9
   clear HRg hr9 k2
   go_wp2_with fail
   generalize w2.alloc (.cells #[.string rn,.int .i64 rt,.int .i64 rc,.int .i64 (life:Int),.string rd] 61)=w3 at *
   refine (Q6 KSm _).mono ?_
   rintro e w4 ⟨rfl,hb4⟩
   have hm4:=(hb4.block _ lM).trans (Q6 HM3)
   have hB4:=(Q6 HB3).trans (hb4.mono (Q6 HB3).size)
   have kw:=Q8F (Q1h q.name) Qm w4 0 (Q6 HTl)
   rw [Q13] at kw
   obtain ⟨b',o',hab,hb',x0',_,x2'⟩:=Q6T ((Q6 HR1).below (hB4.mono hN)) 0 (by simp)
   cases hab
   simp only [List.getElem_cons_zero,Nat.zero_mul,Nat.add_zero] at x0' x2'
   clear m0 m1 m2 m3 m4 m5 o0 o1 o2 o3 o4 lO x0 x2 lM
   obtain ⟨⟨m0,m1,m2,m3,m4,m5⟩,_⟩:=Qh hm4
   have lM:=Qb hm4
   have KW:=Qa kw
   have HB4:=Qa hB4
   clear kw hB4 hb4 hm4 HM3 HB3 KSm HTl hb hb' HR1
   obtain ⟨qn,qt,qc⟩:=q
   simp only at x0' x2' KW HRh
   generalize Q1h qn=sn at *
   go_wp2_with fail
   refine (Q6 KW).mono ?_
   rintro e w5 ⟨rfl,rfl⟩
   clear KW
   generalize Q06 sn Qm 0=wi at *
   cases wi with
   | false =>
    have hr9:=Q6 HRh
    rw [if_pos (.inr rfl)] at hr9
    subst hr9
    go_wp2_with fail
    go_ret
    exact ⟨rfl,Q6 HB4⟩
   | true =>
    by_cases kc:qc=1
    ·subst kc
     have hr9:=Q6 HRh
     rw [if_neg (by simp)] at hr9
     subst hr9
     go_wp2_with fail
     go_ret
     exact ⟨rfl,Q6 HB4⟩
    ·have fc:(qc != 1)=true:=by rw [bne_iff_ne]; exact kc
     have hr9:=Q6 HRh
     rw [if_pos (.inl kc)] at hr9
     subst hr9
     go_wp2_with fail
     go_ret
     exact ⟨rfl,Q6 HB4⟩
  ·have f2:((life:Int) / 65536 % 256 != 0)=true:=by rw [bne_iff_ne]; omega
   have hr9:=Q6 HRg
   rw [if_pos k2] at hr9
   subst hr9
   go_wp2_with fail
   go_ret
   exact ⟨rfl,Q6 HB3⟩
 ·have f1:((fl:Int) % 32768 / 2048 != 0)=true:=by rw [bne_iff_ne]; omega
  have hr9:=Q6 HRf
  rw [if_pos k1] at hr9
  subst hr9
  go_enter Tryz.func68,Tryz.ntmps68
  go_wp2_with fail
  go_ret
  exact ⟨rfl,Q6 HBW⟩
set_option maxRecDepth 100000 in
set_option maxHeartbeats 2000000 in
theorem Qjs (i:Int) (f:Int) (a1:Option Addr) (n1 c1:Nat) (a2:Option Addr) (n2 c2:Nat) (a3:Option Addr) (n3 c3:Nat) (a4:Option Addr) (n4 c4:Nat) (w:World) (h1:n1≠1) :
  Calls Tryz.prog 68 #[.agg #[.int .i64 i,.int .i64 f,.slice a1 n1 c1,.slice a2 n2 c2,.slice a3 n3 c3,.slice a4 n4 c4]] w fun e w'=>e=.returned (.int .i64 1)∧Below w.heap.size w w':=by
 have HBW:=Qa ((Below.refl w.heap.size w).alloc (Nat.le_refl _) (.cells #[.int .i64 i,.int .i64 f,.slice a1 n1 c1,.slice a2 n2 c2,.slice a3 n3 c3,.slice a4 n4 c4] 32))
 have hM:=heap_alloc_new w (.cells #[.int .i64 i,.int .i64 f,.slice a1 n1 c1,.slice a2 n2 c2,.slice a3 n3 c3,.slice a4 n4 c4] 32)
 obtain ⟨⟨m0,m1,m2,m3,m4,m5⟩,_⟩:=Qh hM
 have lM:=Qb hM
 have f1:((n1:Int) != 1)=true:=by rw [bne_iff_ne]; omega
 clear hM h1
 go_enter Tryz.func68,Tryz.ntmps68
 go_wp2_with fail
 go_ret
 exact ⟨rfl,Q6 HBW⟩
theorem Q0n (b:ByteArray) (i:Nat):num b i 2 < 65536:=by
 rw [Qda]
 have h1:=Q20 b i
 have h2:=Q20 b (i+1)
 omega
set_option maxRecDepth 100000 in
set_option maxHeartbeats 2000000 in
theorem Qlq (b:ByteArray) (w:World) (hb:b.size≤65535) (h12:12≤b.size) :
  Calls Tryz.prog 67 #[.string b] w fun e w'=>e=.returned (.agg #[.int .i64 (num b 0 2:Nat),.int .i64 ((32768 ||| (num b 2 2 &&& 30976):Nat):Int),.slice none 0 0,.slice none 0 0,.slice none 0 0,.slice none 0 0])∧Below w.heap.size w w':=by
 have K0:=Qa (fun W=>Q4s b 0 W hb (by omega) (by omega) h12)
 have K1:=Qa (fun W=>Q4s b 1 W hb (by omega) (by omega) h12)
 rw [QfJ]
 have h2:=Q0n b 2
 have h0:=Q0n b 0
 have e0:(2 * (0:Int).toNat)=0:=rfl
 have e1:(2 * (1:Int).toNat)=2:=rfl
 rw [e0] at K0
 rw [e1] at K1
 generalize num b 0 2=id at *
 generalize num b 2 2=f at *
 go_enter Tryz.func67,Tryz.ntmps67
 go_wp2_with fail
 refine (Q6 K0 _).mono ?_
 rintro e w1 ⟨rfl,rfl⟩
 go_wp2_with fail
 refine (Q6 K1 _).mono ?_
 rintro e w2 ⟨rfl,hw2⟩
 subst hw2
 go_wp2_with fail
 have hk:=heap_alloc_new w (.cells #[.int .i64 (id:Nat),.int .i64 (32768+2048 * ((f:Int) % 32768 / 2048)+256 * ((f:Int) / 256 % 2)),.slice none 0 0,.slice none 0 0,.slice none 0 0,.slice none 0 0] 32)
 have hB:=(Below.refl w.heap.size w).alloc (Nat.le_refl _) (.cells #[.int .i64 (id:Nat),.int .i64 (32768+2048 * ((f:Int) % 32768 / 2048)+256 * ((f:Int) / 256 % 2)),.slice none 0 0,.slice none 0 0,.slice none 0 0,.slice none 0 0] 32)
 generalize w.alloc (.cells #[.int .i64 (id:Nat),.int .i64 (32768+2048 * ((f:Int) % 32768 / 2048)+256 * ((f:Int) / 256 % 2)),.slice none 0 0,.slice none 0 0,.slice none 0 0,.slice none 0 0] 32)=W9 at *
 obtain ⟨⟨k0,k1,k2,k3,k4,k5⟩,_⟩:=Qh hk
 refine bodyPost_ret (v:=.agg #[.int .i64 (id:Nat),.int .i64 (32768+2048 * ((f:Int) % 32768 / 2048)+256 * ((f:Int) / 256 % 2)),.slice none 0 0,.slice none 0 0,.slice none 0 0,.slice none 0 0]) (by simp [results,Tryz.results67,go_sem,k0,k1,k2,k3,k4,k5]) rfl ?_
 refine ⟨?_,hB⟩
 have e9:(32768+2048 * ((f:Int) % 32768 / 2048)+256 * ((f:Int) / 256 % 2))=((32768+2048 * (f % 32768 / 2048)+256 * (f / 256 % 2):Nat):Int):=by omega
 rw [e9]
theorem QfS (a k:Nat) (hk:k < 16) (ha:a % 16=0):a ||| k=a+k:=by
 have h:=Nat.two_pow_add_eq_or_of_lt (i:=4) (b:=k) (by omega) (a / 16)
 have e:2 ^ 4 * (a / 16)=a:=by omega
 rw [e] at h
 exact h.symm
theorem Qiv (f:Nat):(32768 ||| (f &&& 30976)) % 256=0∧(32768 ||| (f &&& 30976)) / 1024 % 2=0:=by
 rw [QfJ]
 omega
theorem QiS (a:Nat) (h0:a % 256=0) (h1:a / 1024 % 2=0):a ||| 1024=a+1024:=by
 have e:a=2 ^ 11 * (a / 2048) ||| a % 1024:=by
  have h:=Nat.two_pow_add_eq_or_of_lt (i:=11) (b:=a % 1024) (by omega) (a / 2048)
  rw [←h]
  omega
 have e2:a % 1024 ||| 1024=a % 1024+1024:=by
  have h:=Nat.two_pow_add_eq_or_of_lt (i:=10) (b:=a % 1024) (by omega) 1
  rw [Nat.or_comm,←Nat.mul_one (1024),show (1024 * 1:Nat)=2 ^ 10 * 1 from rfl,←h]
  omega
 have h:=Nat.two_pow_add_eq_or_of_lt (i:=11) (b:=a % 1024+1024) (by omega) (a / 2048)
 calc a ||| 1024=(2 ^ 11 * (a / 2048) ||| a % 1024) ||| 1024:=by rw [←e]
  _=2 ^ 11 * (a / 2048) ||| (a % 1024 ||| 1024):=Nat.or_assoc _ _ _
  _=2 ^ 11 * (a / 2048) ||| (a % 1024+1024):=by rw [e2]
  _=2 ^ 11 * (a / 2048)+(a % 1024+1024):=h.symm
  _=a+1024:=by omega
theorem Qid (x:Rep) (h0:Fit x 0):∃ c,c≤x.sets.length∧Fit x c∧∀ n,c < n→n≤x.sets.length→¬ Fit x n:=by
 have key:∀ d,d≤x.sets.length→(∀ n,x.sets.length - d < n→n≤x.sets.length→¬ Fit x n)→∃ c,c≤x.sets.length∧Fit x c∧∀ n,c < n→n≤x.sets.length→¬ Fit x n:=by
  intro d
  have:∀ k d,k=x.sets.length - d→d≤x.sets.length→(∀ n,x.sets.length - d < n→n≤x.sets.length→¬ Fit x n)→∃ c,c≤x.sets.length∧Fit x c∧∀ n,c < n→n≤x.sets.length→¬ Fit x n:=by
   intro k
   induction k with
   | zero =>
    intro d hk hd hn
    exact ⟨0,Nat.zero_le _,h0,fun n h1 h2=>hn n (by omega) h2⟩
   | succ k ih =>
    intro d hk hd hn
    by_cases c:Fit x (k+1)
    ·exact ⟨k+1,by omega,c,fun n h1 h2=>hn n (by omega) h2⟩
    ·refine ih (d+1) (by omega) (by omega) fun n h1 h2=>?_
     by_cases e:n=k+1
     ·rw [e]; exact c
     ·exact hn n (by omega) h2
  exact this _ d rfl
 exact key 0 (Nat.zero_le _) fun n h1 h2=>by omega
theorem QgL (cls:Nat) (stream:Bool):512≤Q4v cls stream:=by
 unfold Q4v
 split
 ·omega
 ·split
  ·omega
  ·split <;> omega
theorem Qie (x:Rep) (h:Q9j x) (hl:512≤x.lim):Fit x 0:=⟨(Qae x h).1,(Qae x h).2,Nat.le_trans (QgW x h) hl⟩
theorem Qj2 {l:List Ev} {b:ByteArray} {stream:Bool} (hm:¬ QaJ b) {x:Rep} (hx:Q5T l b stream=x) {c:Nat} (hc:c≤x.sets.length) (hf:Fit x c) (hn:∀ n,c < n→n≤x.sets.length→¬ Fit x n):Q4P l b stream (Q3m (Q0A x c).nat).1:=by
 refine .inr ⟨hm,c,0,?_,?_⟩
 ·rw [hx]
  refine ⟨hc,.inr hf,?_⟩
  by_cases e:c=x.sets.length
  ·exact .inl e
  ·exact .inr (hn _ (by omega) (by omega))
 ·rw [hx]
  exact .inr (.inr ⟨hf.1,by have:=hf.2.1; omega,rfl,rfl⟩)
theorem QkY (l:List Ev) (i:Nat) (h:i < (Qg l).length):Tl (Qg l)[i].name 0∧(Qg l)[i].name.size≤255:=by
 have hk:=Qgf (List.getElem_mem h)
 exact ⟨((Q3k _).1 hk.1.1).1,by have:=hk.2.2; omega⟩
theorem QjH (l:List Ev) (x:RI) (h:x∈Qg l) (ht:x.ty=33):6≤x.data.size∧x.data.size≤65535:=by
 refine ⟨?_,by have:=(Qgf h).2.2; omega⟩
 rcases QaH h with (⟨k,rfl⟩ | rfl) | ⟨u,hu,rfl | ⟨_,rfl⟩⟩ | ⟨u,hu,ha,_,rfl⟩ | ⟨u,hu,rfl⟩
 ·exact absurd ht (by show ¬ (6:Int)=33; decide)
 ·exact absurd ht (by show ¬ (2:Int)=33; decide)
 ·exact absurd (show Q0N u=33 from ht) (by unfold Q0N; split <;> decide)
 ·exact absurd ht (by show ¬ (16:Int)=33; decide)
 ·exact absurd ht (by show ¬ (5:Int)=33; decide)
 ·rw [(QdR u).1]; omega
theorem QueRow.set {w:World} {a:Option Addr} {l:List QI} (h:QueRow w a l) {X:Nat} {cs:Array Value} {t:TypeId} {fr:Nat × Nat} (hX:w.heap[X]? = some (.cells cs t fr)) (ht:t≠91) (j:Nat) (v:Value):QueRow (w.setCell ⟨X,j,none⟩ v) a l:=by
 intro hl
 obtain ⟨g,o,ds,h1,h2,h3⟩:=h hl
 refine ⟨g,o,ds,h1,?_,h3⟩
 have hne:g≠X:=fun e=>by rw [e,hX] at h2; cases h2; exact ht rfl
 rw [Qf hne]
 exact h2
theorem DRow.set {w:World} {L:List ST} {xs:List Value} (h:DRow w L xs) {X:Nat} {cs:Array Value} {t:TypeId} {fr:Nat × Nat} (hX:w.heap[X]? = some (.cells cs t fr)) (ht:t≠61) (j:Nat) (v:Value):DRow (w.setCell ⟨X,j,none⟩ v) L xs:=by
 refine ⟨h.1,fun i hi=>?_⟩
 obtain ⟨a,c,h1,h2,h3,h4⟩:=h.2 i hi
 exact ⟨a,c,h1,h2,h3.set hX ht j v,h4⟩
structure Qst (w:World) (X Y:Nat) (xc yc:Array Value) (a1:Option Addr) (q:List QI) (a4:Option Addr) (x:List RI) (sa:Option Addr) (cs:Nat) (S:List ST) (xs:List Value) (W:World):Prop where
 hx:W.heap[X]? = some (.cells xc 32 (0,0))
 hy:W.heap[Y]? = some (.cells yc 32 (0,0))
 qr:QueRow W a1 q
 rr:RecRow W a4 x
 ds:Ds W 0 sa cs S xs
 bl:Below w.heap.size w W
theorem Qst.below {w:World} {X Y:Nat} {xc yc:Array Value} {a1:Option Addr} {q:List QI} {a4:Option Addr} {x:List RI} {sa:Option Addr} {cs:Nat} {S:List ST} {xs:List Value} {W W':World} (h:Qst w X Y xc yc a1 q a4 x sa cs S xs W) (hb:Below W.heap.size W W'):Qst w X Y xc yc a1 q a4 x sa cs S xs W' :=
 ⟨(hb.block X (Qb h.hx)).trans h.hx,(hb.block Y (Qb h.hy)).trans h.hy,h.qr.below hb,h.rr.below hb,h.ds.below hb,h.bl.trans (hb.mono h.bl.size)⟩
theorem Qst.set {w:World} {X Y:Nat} {xc yc:Array Value} {a1:Option Addr} {q:List QI} {a4:Option Addr} {x:List RI} {sa:Option Addr} {cs:Nat} {S:List ST} {xs:List Value} {W:World} (h:Qst w X Y xc yc a1 q a4 x sa cs S xs W) (hX:w.heap.size≤X) (hne:Y≠X) (j:Nat) (v:Value) {xc':Array Value} (he:xc.setIfInBounds j v=xc'):Qst w X Y xc' yc a1 q a4 x sa cs S xs (W.setCell ⟨X,j,none⟩ v) :=
 ⟨by rw [←he]; exact Qo h.hx j v,(Qf hne j v).trans h.hy,h.qr.set h.hx (by decide) j v,h.rr.set h.hx (by decide) j v,⟨Qi h.ds.1 h.hx (by decide) j v,h.ds.2.set h.hx (by decide) j v⟩,h.bl.setCell (p:=⟨X,j,none⟩) hX v⟩
def Way (l:List Ev) (m:MI) (fl:Nat) (x:Rep) (tv:Int):Prop :=
 (tv=1∧m.q.length≠1∧x.q=[]∧x.sets=[]∧x.fl=fl∧x.told=1) ∨
 (∃ q,tv=(x.told:Nat)∧tv=Q8Z m.flags.toNat (Q2j m.x) q∧1 < x.told∧m.q=[q]∧x.q=[q]∧x.sets=[]∧x.fl=fl) ∨
 (∃ q,tv=-1∧tv=Q8Z m.flags.toNat (Q2j m.x) q∧m.q=[q]∧x.q=[q]∧x.fl=(fl ||| 1024)∧x.told=Q3B (Qg l) (Q1h q.name)∧x.sets=Q2m (Qg l) (Q1h q.name) q.ty)
theorem Qjo (id fl:Nat) (m:MI) (l:List Ev) (stream:Bool):∃ tv,Way l m fl (Q3A id fl m l stream) tv∧(Q3A id fl m l stream).id=id∧(Q3A id fl m l stream).opt=(Q12 m.x).isSome∧(Q3A id fl m l stream).lim=Q4v (Q28 m.x) stream:=by
 by_cases c:m.q.length=1
 ·obtain ⟨q,hq⟩:=List.length_eq_one_iff.1 c
  refine ⟨Q8Z m.flags.toNat (Q2j m.x) q,?_⟩
  unfold Q3A
  rw [hq]
  simp only
  have ht:=Qjq m.flags.toNat (Q2j m.x) q
  by_cases r:Q1o m.flags.toNat (Q2j m.x) q=0
  ·rw [if_pos r] at ht
   rw [if_pos r]
   exact ⟨.inr (.inr ⟨q,ht,rfl,hq,rfl,rfl,rfl,rfl⟩),rfl,rfl,rfl⟩
  ·rw [if_neg r] at ht
   rw [if_neg r]
   refine ⟨.inr (.inl ⟨q,ht,rfl,?_,hq,rfl,rfl,rfl⟩),rfl,rfl,rfl⟩
   show 1 < Q1o m.flags.toNat (Q2j m.x) q
   revert r
   unfold Q1o
   split
   ·intro _; decide
   ·split
    ·intro _; decide
    ·split
     ·intro _; decide
     ·intro r; exact absurd rfl r
 ·refine ⟨1,?_⟩
  have e:Q3A id fl m l stream=⟨id,fl,1,[],(Q12 m.x).isSome,[],Q4v (Q28 m.x) stream⟩:=by
   unfold Q3A
   split
   ·next q hq=>rw [hq] at c; exact absurd rfl c
   ·rfl
  rw [e]
  exact ⟨.inl ⟨rfl,c,rfl,rfl,rfl,rfl⟩,rfl,rfl,rfl⟩
theorem Qkh {m:MI} (h:Q1A m):Q2j m.x < 4294967296:=by
 unfold Q2j
 cases e:Q12 m.x with
 | none=>show 0 < 4294967296; decide
 | some o =>
  have hm:o∈m.x:=List.mem_of_find?_eq_some e
  obtain ⟨i,hi,rfl⟩:=List.getElem_of_mem hm
  have h9:=(h.2.2.2.2.2.2 i hi).1.2.2.2.1
  show (m.x[i].ttl).toNat < 4294967296
  have:=h9.1
  have:=h9.2
  omega
theorem Qbp {m:MI} (hok:Q1A m):m.x.length≤70000∧∀ x,x∈m.x→0≤x.cl∧0≤x.ttl:=⟨Nat.le_trans hok.2.2.2.2.2.1 (by omega),fun x hx=>by
  obtain ⟨i,hi,rfl⟩:=List.getElem_of_mem hx
  have h9:=(hok.2.2.2.2.2.2 i hi).1
  exact ⟨h9.2.2.1.1,h9.2.2.2.1.1⟩⟩
theorem Qju {l:List Ev} {m:MI} {fl:Nat} {x:Rep} {tv:Int} (hway:Way l m fl x tv) (hok:Q1A m) (a1:Option Addr) (c1:Nat) (a2:Option Addr) (c2:Nat) (a3:Option Addr) (c3:Nat) (a4:Option Addr) (c4:Nat) (W:World) (hq:QueRow W a1 m.q) (hr:RecRow W a4 m.x) :
  Calls Tryz.prog 68 #[.agg #[.int .i64 m.id,.int .i64 m.flags,.slice a1 m.q.length c1,.slice a2 m.a.length c2,.slice a3 m.u.length c3,.slice a4 m.x.length c4]] W fun e w'=>e=.returned (.int .i64 tv)∧Below W.heap.size W w':=by
 obtain ⟨hlm,hxx⟩:=Qbp hok
 have one:∀ q,m.q=[q]→tv=Q8Z m.flags.toNat (Q2j m.x) q→Calls Tryz.prog 68 #[.agg #[.int .i64 m.id,.int .i64 m.flags,.slice a1 m.q.length c1,.slice a2 m.a.length c2,.slice a3 m.u.length c3,.slice a4 m.x.length c4]] W fun e w'=>e=.returned (.int .i64 tv)∧Below W.heap.size W w':=fun q h he=>by
  have k:=Qjt m.id m.flags.toNat q a1 c1 a2 m.a.length c2 a3 m.u.length c3 a4 c4 m.x W.heap.size W (by have:=hq.row; rw [h] at this; exact this) hr.row (Nat.le_refl _) hlm hxx (by have:=hok.2.1.1; have:=hok.2.1.2; omega) (by
   have h9:=(hok.2.2.1.2 0 (by rw [h]; simp)).1
   simp only [h,List.getElem_cons_zero] at h9
   exact h9) (Qkh hok)
  have fi:((m.flags.toNat:Nat):Int)=m.flags:=Int.toNat_of_nonneg hok.2.1.1
  rw [fi] at k
  rw [h,he]
  exact k
 rcases hway with ⟨h1,h2,_⟩ | ⟨q,_,h2,_,h4,_⟩ | ⟨q,_,h2,h4,_⟩
 ·rw [h1]
  exact Qjs m.id m.flags a1 _ c1 a2 _ c2 a3 _ c3 a4 _ c4 _ h2
 ·exact one q h4 h2
 ·exact one q h4 h2
set_option maxRecDepth 100000 in
set_option maxHeartbeats 8000000 in
theorem Qcm (l:List Ev) (al:Option Addr) (cl N:Nat) (b:ByteArray) (stream:Bool) (w:World) (hE:RowAt w N al (evC l)) (hN:N≤w.heap.size) (hl:l.length≤1048576) (hz:Q2d l) (hb:b.size≤maxLen) :
  Calls Tryz.prog 34 #[.slice al l.length cl,.string b,.bool stream] w fun e w'=>QbR w l b stream e w':=by
 have KS:=Qa (QdB b w hb)
 by_cases hm:QaJ b
 ·have HR:Hid (Q4P l b stream ⟨#[]⟩):=.inl ⟨hm,rfl⟩
  have HM:=Qa hm
  clear hm hE
  go_enter Tryz.func34,Tryz.ntmps34
  go_wp2_with fail
  refine (Q6 KS).mono ?_
  rintro e w1 ⟨⟨r,rfl,hr⟩,rfl⟩
  have er:r=true:=hr.2 (Q6 HM)
  subst er
  clear hr KS
  go_wp2_with fail
  go_ret
  exact ⟨_,rfl,Q6 HR,Below.refl _ _⟩
 ·have hs1:12≤b.size:=Nat.le_of_not_lt fun h=>hm (.inl h)
  have hs2:b.size≤65535:=Nat.le_of_not_lt fun h=>hm (.inr (.inl h))
  have kk:=fun W=>Qlq b W hs2 hs1
  obtain ⟨fl,hfl⟩:∃ fl,32768 ||| (num b 2 2 &&& 30976)=fl:=⟨_,rfl⟩
  obtain ⟨id,hid⟩:∃ id,num b 0 2=id:=⟨_,rfl⟩
  have hk:=Qiv (num b 2 2)
  have hkb:=Q62 (num b 2 2)
  have hidl:=Q0n b 0
  have HNo:Hid (∀ x,Q0X b=.error x→Q5T l b stream=⟨id,fl,1,[],false,[],0⟩):=fun x h=>by
   unfold Q5T
   rw [h,hid,hfl]
  have HYes:Hid (∀ m,Q0X b=.ok m→Q5T l b stream=Q3A id fl m.int l stream∧Q1A m.int):=fun m h=>⟨by
   unfold Q5T
   rw [h]
   simp only
   rw [hid,hfl],Q78 b m h⟩
  rw [hfl] at hk hkb
  rw [hid] at hidl
  rw [hfl,hid] at kk
  have KK:=Qa kk
  have KP:=Qa (fun W=>Q7V b W hb)
  have HE:=Qa hE
  have HM:=Qa hm
  have HOk:=Qa (Qj1 l b stream)
  clear kk hE hm hfl hid
  go_enter Tryz.func34,Tryz.ntmps34
  go_wp2_with fail
  refine (Q6 KS).mono ?_
  rintro e w1 ⟨⟨r,rfl,hr⟩,rfl⟩
  have er:r=false:=by cases r; rfl; exact absurd (hr.1 rfl) (Q6 HM)
  subst er
  clear hr KS
  go_wp2_with fail
  refine (Q6 KK _).mono ?_
  rintro e w2 ⟨rfl,hb2⟩
  have hX:=heap_alloc_new w2 (.cells #[.int .i64 (id:Nat),.int .i64 (fl:Nat),.slice none 0 0,.slice none 0 0,.slice none 0 0,.slice none 0 0] 32)
  have hB:=hb2.alloc hb2.size (.cells #[.int .i64 (id:Nat),.int .i64 (fl:Nat),.slice none 0 0,.slice none 0 0,.slice none 0 0,.slice none 0 0] 32)
  have hwX:=hb2.size
  have HX:=Qa hX
  have HB:=Qa hB
  clear hX hB hb2 KK
  go_wp2_with fail
  generalize w2.alloc (.cells #[.int .i64 (id:Nat),.int .i64 (fl:Nat),.slice none 0 0,.slice none 0 0,.slice none 0 0,.slice none 0 0] 32)=w3 at *
  generalize w2.heap.size=X at *
  clear w2
  have kpw:=Q6 KP w3
  clear KP
  cases hp:Q0X b with
  | error x =>
   have hrep:=Q6 HNo x hp
   have hxn:=Qbz b x hp
   rw [hp] at kpw
   have f1:(x != 0)=true:=bne_iff_ne.2 hxn
   have KPw:=Qa kpw
   clear kpw hp hxn HNo HYes
   have HRe:Hid (∀ s e,SerIs ⟨(id:Nat),((fl+1:Nat):Int),[],[],[],[]⟩ s e→Q4P l b stream s):=fun s e h=>by
    refine .inr ⟨Q6 HM,0,e,?_⟩
    rw [hrep]
    refine ⟨⟨Nat.le_refl _,.inl rfl,.inl rfl⟩,?_⟩
    have e1:fl ||| 1=fl+1:=QfS fl 1 (by omega) (by omega)
    rw [←e1] at h
    exact h
   clear hrep
   refine (Q6 KPw).mono ?_
   rintro e w4 ⟨v,rfl,hmi,hb4⟩
   obtain ⟨a1,c1,a2,c2,a3,c3,a4,c4,rfl,_⟩:=Q5v hmi
   generalize (Q0R (.error x)).int=m at *
   have hX4:=((hb4.alloc hb4.size (.cells #[.int .i64 m.id,.int .i64 m.flags,.slice a1 m.q.length c1,.slice a2 m.a.length c2,.slice a3 m.u.length c3,.slice a4 m.x.length c4] 32)).block X (Qb (Q6 HX))).trans (Q6 HX)
   have hB4:=((Q6 HB).trans (hb4.mono (Q6 HB).size)).alloc ((Q6 HB).trans (hb4.mono (Q6 HB).size)).size (.cells #[.int .i64 m.id,.int .i64 m.flags,.slice a1 m.q.length c1,.slice a2 m.a.length c2,.slice a3 m.u.length c3,.slice a4 m.x.length c4] 32)
   have HX4:=Qa hX4
   have HB4:=Qa hB4
   obtain ⟨⟨x0,x1,x2,x3,x4,x5⟩,z0,z1,z2,z3,z4,z5⟩:=Qh hX4
   have lX:=Qb hX4
   clear hX4 hB4 hb4 hmi HX HB
   simp only [Q8J]
   have hX5:=Qo (Q6 HX4) 1 (.int .i64 ((fl:Int)+1))
   have hMs:MsgAt ((w4.alloc (.cells #[.int .i64 m.id,.int .i64 m.flags,.slice a1 m.q.length c1,.slice a2 m.a.length c2,.slice a3 m.u.length c3,.slice a4 m.x.length c4] 32)).setCell ⟨X,1,none⟩ (.int .i64 ((fl:Int)+1))) ((w4.alloc (.cells #[.int .i64 m.id,.int .i64 m.flags,.slice a1 m.q.length c1,.slice a2 m.a.length c2,.slice a3 m.u.length c3,.slice a4 m.x.length c4] 32)).setCell ⟨X,1,none⟩ (.int .i64 ((fl:Int)+1))).heap.size (.agg #[.int .i64 (id:Nat),.int .i64 ((fl:Int)+1),.slice none 0 0,.slice none 0 0,.slice none 0 0,.slice none 0 0]) ⟨(id:Nat),((fl+1:Nat):Int),[],[],[],[]⟩ :=
    ⟨none,0,none,0,none,0,none,0,rfl,fun h=>absurd rfl h,fun h=>absurd rfl h,fun h=>absurd rfl h,fun h=>absurd rfl h,fun i hi=>absurd hi (Nat.not_lt_zero i),fun i hi=>absurd hi (Nat.not_lt_zero i),fun i hi=>absurd hi (Nat.not_lt_zero i),fun i hi=>absurd hi (Nat.not_lt_zero i),Nat.le_refl _,Nat.le_refl _,Nat.le_refl _,Nat.le_refl _⟩
   have KSe:=Qa (Q3Q _ _ _ hMs)
   have HB5:=Qa ((Q6 HB4).setCell (p:=⟨X,1,none⟩) hwX (.int .i64 ((fl:Int)+1)))
   clear hX5 hMs
   go_wp2_with fail
   refine (Q6 KSe).mono ?_
   rintro e w6 ⟨⟨s,ec,rfl,hser⟩,hb6⟩
   have HS:=Qa (Q6 HRe s ec hser)
   have HB6:=Qa ((Q6 HB5).trans (hb6.mono (Q6 HB5).size))
   clear hser hb6 KSe HB5
   go_wp2_with fail
   go_ret
   exact ⟨s,rfl,Q6 HS,Q6 HB6⟩
  | ok mm =>
   obtain ⟨hrep,hok⟩:=Q6 HYes mm hp
   rw [hp] at kpw
   have KPw:=Qa kpw
   have HRok:=Q6 HOk
   rw [hrep] at HRok
   obtain ⟨tv,hway,hxi,hxo,hxl⟩:=Qjo id fl mm.int l stream
   obtain ⟨x,hx⟩:∃ x,Q3A id fl mm.int l stream=x:=⟨_,rfl⟩
   rw [hx] at hway hxi hxo hxl hrep HRok
   have hFit0:=Qie x HRok (by rw [hxl]; exact QgL _ _)
   obtain ⟨c,hc1,hc2,hc3⟩:=Qid x hFit0
   have HRe:=Qa (Qj2 (Q6 HM) hrep hc1 hc2 hc3)
   have HC:=Qa (And.intro hc1 (And.intro hc2 hc3))
   have HRok:=Qa HRok
   have HXo:=Qa hxo
   have HXl:=Qa hxl
   clear kpw hp HNo HYes hc1 hc2 hc3 hFit0 hrep hx HOk hxo hxl
   subst hxi
   refine (Q6 KPw).mono ?_
   rintro e w4 ⟨v,rfl,hmi,hb4⟩
   have hmi':MsgIs w4 w3.heap.size v mm:=hmi
   obtain ⟨a1,c1,a2,c2,a3,c3,a4,c4,rfl,hq,hq2,hr⟩:=Q5v hmi'
   generalize mm.int=m at *
   have hb5:=hb4.alloc hb4.size (.cells #[.int .i64 m.id,.int .i64 m.flags,.slice a1 m.q.length c1,.slice a2 m.a.length c2,.slice a3 m.u.length c3,.slice a4 m.x.length c4] 32)
   have hbm:=(Below.refl w4.heap.size w4).alloc (Nat.le_refl _) (.cells #[.int .i64 m.id,.int .i64 m.flags,.slice a1 m.q.length c1,.slice a2 m.a.length c2,.slice a3 m.u.length c3,.slice a4 m.x.length c4] 32)
   have hXY:X < w4.heap.size:=Nat.lt_of_lt_of_le (Qb (Q6 HX)) hb4.size
   have hQ:Qst w1 X w4.heap.size #[.int .i64 (x.id:Nat),.int .i64 (fl:Nat),.slice none 0 0,.slice none 0 0,.slice none 0 0,.slice none 0 0] #[.int .i64 m.id,.int .i64 m.flags,.slice a1 m.q.length c1,.slice a2 m.a.length c2,.slice a3 m.u.length c3,.slice a4 m.x.length c4] a1 m.q a4 m.x none 0 [] [] (w4.alloc (.cells #[.int .i64 m.id,.int .i64 m.flags,.slice a1 m.q.length c1,.slice a2 m.a.length c2,.slice a3 m.u.length c3,.slice a4 m.x.length c4] 32)) :=
    ⟨(hb5.block X (Qb (Q6 HX))).trans (Q6 HX),heap_alloc_new w4 _,hq.below hbm,hr.below hbm,Ds.nil _ _,(Q6 HB).trans (hb5.mono (Q6 HB).size)⟩
   obtain ⟨⟨y0,y1,y2,y3,y4,y5⟩,_⟩:=Qh hQ.hy
   have lY:=Qb hQ.hy
   have HL:=Qa (Qbp hok)
   have kt:=Qju hway hok a1 c1 a2 c2 a3 c3 a4 c4 _ hQ.qr hQ.rr
   have HQ:=Qa hQ
   have KT:=Qa kt
   clear hmi hmi' hb4 hb5 hbm hq hr hQ KPw HX HB kt
   simp only [Q8J]
   go_wp2_with fail
   generalize w4.alloc (.cells #[.int .i64 m.id,.int .i64 m.flags,.slice a1 m.q.length c1,.slice a2 m.a.length c2,.slice a3 m.u.length c3,.slice a4 m.x.length c4] 32)=w5 at *
   generalize w4.heap.size=Y at *
   refine (Q6 KT).mono ?_
   rintro e w6 ⟨rfl,hb6⟩
   have HQ6:=Qa ((Q6 HQ).below hb6)
   clear y0 y1 y2 y3 y4 y5 lY hb6 KT HQ
   have HWay:=Qa hway
   have hq1:m.q.length≤c1:=hq2
   have HOk:=Qa hok
   clear hway hok hq2
   go_upto_if 45 with fail
   have hYX:Y≠X:=by omega
   go_cut [6] (fun v w'=>v=.string ⟨#[]⟩∧∃ aq cq,Hid (Qst w1 X Y #[.int .i64 (x.id:Nat),.int .i64 (fl:Nat),.slice aq x.q.length cq,.slice none 0 0,.slice none 0 0,.slice none 0 0] #[.int .i64 m.id,.int .i64 m.flags,.slice a1 m.q.length c1,.slice a2 m.a.length c2,.slice a3 m.u.length c3,.slice a4 m.x.length c4] a1 m.q a4 m.x none 0 [] [] w')∧Hid (x.q=[]∨(aq=a1∧x.q=m.q))∧x.q.length≤cq)
   case first =>
    obtain ⟨⟨y0,y1,y2,y3,y4,y5⟩,_⟩:=Qh (Q6 HQ6).hy
    obtain ⟨⟨z0,z1,z2,z3,z4,z5⟩,u0,u1,u2,u3,u4,u5⟩:=Qh (Q6 HQ6).hx
    have lY:=Qb (Q6 HQ6).hy
    have lX:=Qb (Q6 HQ6).hx
    rcases Q6 HWay with ⟨e1,e2,e3,_⟩ | ⟨q,e1,_,e3,e4,e5,_⟩ | ⟨q,e1,_,e4,e5,_⟩
    ·have E3:=Qa e3
     have f1:(tv != 1)=false:=by rw [e1]; rfl
     clear e1 e2 e3
     go_wp2_with fail
     go_meet
     refine ⟨rfl,none,0,?_,Qa (.inl (Q6 E3)),by rw [Q6 E3]; exact Nat.le_refl _⟩
     rw [Q6 E3]
     exact HQ6
    ·have f1:(tv != 1)=true:=by rw [bne_iff_ne,e1]; omega
     have E:=Qa (e5.trans e4.symm)
     clear e1 e3 e4 e5
     go_wp2_with fail
     go_meet
     refine ⟨rfl,a1,c1,?_,Qa (.inr ⟨rfl,Q6 E⟩),by rw [Q6 E]; exact hq1⟩
     rw [Q6 E]
     exact Qa ((Q6 HQ6).set hwX hYX 2 _ rfl)
    ·have f1:(tv != 1)=true:=by rw [bne_iff_ne,e1]; omega
     have E:=Qa (e5.trans e4.symm)
     clear e1 e4 e5
     go_wp2_with fail
     go_meet
     refine ⟨rfl,a1,c1,?_,Qa (.inr ⟨rfl,Q6 E⟩),by rw [Q6 E]; exact hq1⟩
     rw [Q6 E]
     exact Qa ((Q6 HQ6).set hwX hYX 2 _ rfl)
   case rest =>
    obtain ⟨rfl,aq,cq,HQ7,HAq,hcq⟩:=hcut
    clear HQ6
    generalize wc=w7 at *
    go_upto_if 50 with fail
    go_cut [13,14] (fun v s w'=>v=.int .i64 (x.told:Nat)∧∃ sa cs xs,s=.slice sa x.sets.length cs∧Hid (Qst w1 X Y #[.int .i64 (x.id:Nat),.int .i64 (x.fl:Nat),.slice aq x.q.length cq,.slice none 0 0,.slice none 0 0,.slice none 0 0] #[.int .i64 m.id,.int .i64 m.flags,.slice a1 m.q.length c1,.slice a2 m.a.length c2,.slice a3 m.u.length c3,.slice a4 m.x.length c4] a1 m.q a4 m.x sa cs x.sets xs w'))
    case first =>
     obtain ⟨⟨y0,y1,y2,y3,y4,y5⟩,_⟩:=Qh (Q6 HQ7).hy
     have lY:=Qb (Q6 HQ7).hy
     rcases Q6 HWay with ⟨e1,e2,e3,e4,e5,e6⟩ | ⟨q,e1,e2,e3,e4,e5,e6,e7⟩ | ⟨q,e1,e2,e3,e4,e5,e6,e7⟩
     ·have E:=Qa (And.intro e4 (And.intro e5 e6))
      subst e1
      clear e2 e3 e4 e5 e6
      go_wp2_with fail
      go_meet
      obtain ⟨e4,e5,e6⟩:=Q6 E
      refine ⟨by rw [e6]; rfl,none,0,[],by rw [e4]; rfl,?_⟩
      rw [e4,e5]
      exact HQ7
     ·have f2:¬ tv < 0:=by omega
      have f1:decide (tv < 0)=false:=decide_eq_false f2
      have E:=Qa (And.intro e1 (And.intro e6 e7))
      clear e1 e2 e3 e4 e5 e6 e7
      go_wp2_with fail
      go_meet
      obtain ⟨e1,e6,e7⟩:=Q6 E
      refine ⟨by rw [e1],none,0,[],by rw [e6]; rfl,?_⟩
      rw [e6,e7]
      exact HQ7
     ·have E:=Qa (And.intro e4 (And.intro e5 (And.intro e6 e7)))
      have E3:=Qa e3
      have hpos:0 < m.q.length:=by rw [e3]; exact Nat.one_pos
      clear e2
      subst e1
      clear e3 e4 e5 e6 e7
      have kr:=Q6d l al cl N w7 ((Q6 HE).below ((Q6 HQ7).bl.mono hN)) (Nat.le_trans hN (Q6 HQ7).bl.size) (by omega) hz
      rw [←Q3x] at kr
      have KR:=Qa kr
      have hzl:=QaG l
      have HZt:=Qa (QkY l)
      have HZs:=Qa (QjH l)
      have HZd:=Qa (fun n t=>Qjb l n t)
      have hqw:Q09 q.name=true:=by
       have h9:=((Q6 HOk).2.2.1.2 0 (by rw [Q6 E3]; simp)).1
       simp only [Q6 E3,List.getElem_cons_zero] at h9
       exact h9
      have KSm:=Qa (fun W=>Qad q.name W (by have:=Q1j hqw; omega))
      clear kr hqw
      go_wp2_with fail
      refine (Q6 KR).mono ?_
      rintro e w8 ⟨az,cz,rfl,hown,hb8⟩
      have hQ8:=(Q6 HQ7).below hb8
      clear y0 y1 y2 y3 y4 y5 lY
      obtain ⟨⟨y0,y1,y2,y3,y4,y5⟩,_⟩:=Qh hQ8.hy
      have lY:=Qb hQ8.hy
      obtain ⟨g,o,hga,hg,x0,_,_⟩:=Q6T hQ8.qr.row 0 hpos
      have eq0:m.q[0]=q:=by simp only [Q6 E3,List.getElem_cons_zero]
      rw [eq0] at x0
      simp only [Nat.zero_mul,Nat.add_zero] at x0
      obtain ⟨hzr,hzc⟩:=Q18 hown
      have HZr:=Qa hzr
      have HQ8:=Qa hQ8
      have Eq0:=Qa eq0
      rw [hga] at y2
      clear hown hb8 hQ8 KR HQ7 hzr eq0
      go_wp2_with fail
      refine (Q6 KSm _).mono ?_
      rintro e w9 ⟨rfl,hb9⟩
      have kw:=QjB (Qg l) (Q1h q.name) q.ty az cz w9 ((Q6 HZr).below hb9) hzc (by omega) (Q6 HZt) (Q6 HZs) (Q6 HZd _ _)
      have hQ9:=(Q6 HQ8).below hb9
      clear y0 y1 y2 y3 y4 y5 lY x0 hg
      obtain ⟨⟨y0,y1,y2,y3,y4,y5⟩,_⟩:=Qh hQ9.hy
      have lY:=Qb hQ9.hy
      obtain ⟨g',o',hga',hg',_,x1,_⟩:=Q6T hQ9.qr.row 0 hpos
      rw [Q6 Eq0] at x1
      simp only [Nat.zero_mul,Nat.add_zero] at x1
      rw [hga'] at y2
      have HQ9:=Qa hQ9
      have KW:=Qa kw
      clear kw hQ9 hb9 HQ8 KSm HZr hga
      go_wp2_with fail
      refine (Q6 KW).mono ?_
      rintro e w10 ⟨sa,cs,xs,rfl,hds,hdf⟩
      have hb10:=hdf.below (Nat.le_refl _)
      have hq10:=(Q6 HQ9).below hb10
      have hQ10:Qst w1 X Y #[.int .i64 (x.id:Nat),.int .i64 (fl:Nat),.slice aq x.q.length cq,.slice none 0 0,.slice none 0 0,.slice none 0 0] #[.int .i64 m.id,.int .i64 m.flags,.slice a1 m.q.length c1,.slice a2 m.a.length c2,.slice a3 m.u.length c3,.slice a4 m.x.length c4] a1 m.q a4 m.x sa cs (Q2m (Qg l) (Q1h q.name) q.ty) xs w10:=⟨hq10.hx,hq10.hy,hq10.qr,hq10.rr,⟨Q1r hds.1 (Nat.zero_le _),hds.2⟩,hq10.bl⟩
      clear y0 y1 y2 y3 y4 y5 lY x1 hg' hga'
      obtain ⟨⟨z0,z1,z2,z3,z4,z5⟩,u0,u1,u2,u3,u4,u5⟩:=Qh hQ10.hx
      have lX:=Qb hQ10.hx
      have HQ10:=Qa hQ10
      clear hds hdf hb10 hq10 hQ10 KW HQ9
      go_wp2_with fail
      go_meet
      obtain ⟨e4,e5,e6,e7⟩:=Q6 E
      refine ⟨by rw [e6],sa,cs,xs,by rw [e7],?_⟩
      have e9:((x.fl:Nat):Int)=(fl:Int)+1024:=by rw [e5,QiS fl hk.1 hk.2]; omega
      rw [e7,e9]
      exact Qa ((Q6 HQ10).set hwX hYX 1 _ rfl)
    case rest =>
     obtain ⟨rfl,sa,cs,xs,rfl,HQ8⟩:=hcut
     clear HQ7
     generalize wc=w8 at *
     have htold:x.told≤16:=(Q6 HRok).2.2.2.1
     have hfl9:x.fl < 65536:=(Q6 HRok).2.2.1
     have hx16:x.fl % 16=0:=by
      rcases Q6 HWay with ⟨_,_,_,_,e5,_⟩ | ⟨q,_,_,_,_,_,_,e7⟩ | ⟨q,_,_,_,_,e5,_,_⟩
      ·omega
      ·omega
      ·rw [e5,QiS fl hk.1 hk.2]; omega
     have hgs:((x.fl:Int)+(x.told:Int) % 16)=((x.fl ||| x.told % 16:Nat):Int):=by
      rw [QfS x.fl (x.told % 16) (by omega) hx16]; omega
     have HGs:=Qa hgs
     have HQ9:=Qa ((Q6 HQ8).set hwX hYX 1 (.int .i64 ((x.fl:Int)+(x.told:Int) % 16)) rfl)
     obtain ⟨⟨z0,z1,z2,z3,z4,z5⟩,u0,u1,u2,u3,u4,u5⟩:=Qh (Q6 HQ8).hx
     have lX:=Qb (Q6 HQ8).hx
     clear hgs hx16
     go_upto_region 20 with fail
     clear z0 z1 z2 z3 z4 z5 u0 u1 u2 u3 u4 u5 lX HQ8
     generalize w8.setCell ⟨X,1,none⟩ (.int .i64 ((x.fl:Int)+(x.told:Int) % 16))=w9 at *
     have hQ9:Qst w1 X Y #[.int .i64 (x.id:Nat),.int .i64 ((x.fl ||| x.told % 16:Nat):Int),.slice aq x.q.length cq,.slice none 0 0,.slice none 0 0,.slice none 0 0] #[.int .i64 m.id,.int .i64 m.flags,.slice a1 m.q.length c1,.slice a2 m.a.length c2,.slice a3 m.u.length c3,.slice a4 m.x.length c4] a1 m.q a4 m.x sa cs x.sets xs w9:=by
      rw [←Q6 HGs]
      exact Q6 HQ9
     clear HQ9
     have HQ9:=Qa hQ9
     have KO:=Qa (QiR m.id m.flags a1 m.q.length c1 a2 m.a.length c2 a3 m.u.length c3 a4 c4 m.x w9.heap.size w9 hQ9.rr.row (Nat.le_refl _) (Q6 HL).1)
     obtain ⟨⟨y0,y1,y2,y3,y4,y5⟩,_⟩:=Qh hQ9.hy
     have lY:=Qb hQ9.hy
     clear hQ9
     go_wp2_with fail
     refine (Q6 KO).mono ?_
     rintro e w10 ⟨⟨⟨rn,rt,rc,rl,rd⟩,rfl,h1,h2⟩,hb10⟩
     have hQ10:=(Q6 HQ9).below (hb10.alloc hb10.size (.cells #[.string rn,.int .i64 rt,.int .i64 rc,.int .i64 rl,.string rd] 61))
     have HQ10:=Qa hQ10
     clear h1 h2 hb10 y0 y1 y2 y3 y4 y5 lY hQ10 HQ9 KO
     rw [←Q6 HXo]
     go_upto_if 85 with fail
     generalize w10.alloc (.cells #[.string rn,.int .i64 rt,.int .i64 rc,.int .i64 rl,.string rd] 61)=w11 at *
     go_cut [6,18] (fun v s w'=>v=.string ⟨#[]⟩∧s=.bool x.opt∧∃ ax cx,Hid (Qst w1 X Y #[.int .i64 (x.id:Nat),.int .i64 ((x.fl ||| x.told % 16:Nat):Int),.slice aq x.q.length cq,.slice none 0 0,.slice none 0 0,.slice ax (Q0o x).length cx] #[.int .i64 m.id,.int .i64 m.flags,.slice a1 m.q.length c1,.slice a2 m.a.length c2,.slice a3 m.u.length c3,.slice a4 m.x.length c4] a1 m.q a4 m.x sa cs x.sets xs w')∧Hid (RecRow w' ax (Q0o x))∧(Q0o x).length≤cx∧Hid (x.opt=false→ax=none∧cx=0))
     case first =>
      obtain ⟨⟨z0,z1,z2,z3,z4,z5⟩,u0,u1,u2,u3,u4,u5⟩:=Qh (Q6 HQ10).hx
      have lX:=Qb (Q6 HQ10).hx
      obtain ⟨bo,hbo⟩:∃ bo,x.opt=bo:=⟨_,rfl⟩
      rw [hbo]
      have HBo:=Qa hbo
      clear hbo
      cases bo with
      | false =>
       go_wp2_with fail
       go_meet
       have eo:Q0o x=[]:=by unfold Q0o; rw [Q6 HBo]; rfl
       refine ⟨rfl,by rw [Q6 HBo],none,0,?_,Qa (by rw [eo]; exact fun h=>absurd rfl h),by rw [eo]; exact Nat.le_refl _,Qa (fun _=>⟨rfl,rfl⟩)⟩
       rw [eo]
       exact HQ10
      | true =>
       go_wp2_with fail
       go_meet
       have eo:Q0o x=[Q7O x.told]:=by unfold Q0o; rw [Q6 HBo]; rfl
       refine ⟨rfl,by rw [Q6 HBo],some ⟨w11.heap.size,0,none⟩,1,?_,?_,by rw [eo]; exact Nat.le_refl _,Qa (fun h=>by rw [Q6 HBo] at h; cases h)⟩
       ·rw [eo]
        exact Qa (((Q6 HQ10).set hwX hYX 5 (.slice (some ⟨w11.heap.size,0,none⟩) 1 1) rfl).below ((Below.refl (w11.setCell ⟨X,5,none⟩ (.slice (some ⟨w11.heap.size,0,none⟩) 1 1)).heap.size (w11.setCell ⟨X,5,none⟩ (.slice (some ⟨w11.heap.size,0,none⟩) 1 1))).alloc (Nat.le_refl _) (.cells #[.string ⟨#[0]⟩,.int .i64 41,.int .i64 4096,.int .i64 ((x.told:Int) / 16 * 16777216),.string ⟨#[]⟩] 61)))
       ·rw [eo]
        have hnew:=heap_alloc_new (w11.setCell ⟨X,5,none⟩ (.slice (some ⟨w11.heap.size,0,none⟩) 1 1)) (.cells #[.string ⟨#[0]⟩,.int .i64 41,.int .i64 4096,.int .i64 ((x.told:Int) / 16 * 16777216),.string ⟨#[]⟩] 61)
        rw [Q0l] at hnew
        refine Qa fun _=>⟨w11.heap.size,0,_,rfl,hnew,fun j u hu=>?_⟩
        have er:rcI [Q7O x.told]=[.string ⟨#[0]⟩,.int .i64 41,.int .i64 4096,.int .i64 ((x.told:Int) / 16 * 16777216),.string ⟨#[]⟩]:=by
         show [Value.string ⟨#[0]⟩,.int .i64 41,.int .i64 4096,.int .i64 ((x.told / 16 * 16777216:Nat):Int),.string ⟨#[]⟩]=_
         have:((x.told / 16 * 16777216:Nat):Int)=(x.told:Int) / 16 * 16777216:=by omega
         rw [this]
        rw [er] at hu
        rw [Nat.zero_add,←Array.getElem?_toList]
        exact hu
     case rest =>
      obtain ⟨rfl,rfl,ax,cx,HQ12,HXr,hxc,HXn⟩:=hcut
      clear HQ10
      generalize wc=w12 at *
      have hQ12:=Q6 HQ12
      have KL:=Qa (Qf0 m.id m.flags a1 m.q.length c1 a2 m.a.length c2 a3 m.u.length c3 a4 c4 m.x stream w12.heap.size w12 hQ12.rr.row (Nat.le_refl _) (Q6 HL).1 (Q6 HL).2)
      obtain ⟨⟨y0,y1,y2,y3,y4,y5⟩,_⟩:=Qh hQ12.hy
      have lY:=Qb hQ12.hy
      clear hQ12
      go_wp2_with fail
      refine (Q6 KL).mono ?_
      rintro e w13 ⟨rfl,hb13⟩
      rw [←Q6 HXl]
      have hQ13:=(Q6 HQ12).below hb13
      have hq13:RowAt w13 w13.heap.size aq (qcI x.q):=by
       rcases Q6 HAq with h | ⟨h1,h2⟩
       ·rw [h]; exact fun k=>absurd rfl k
       ·rw [h1,h2]; exact hQ13.qr.row
      have hqs:Q4m x.q:=by
       rcases Q6 HAq with h | ⟨_,h2⟩
       ·rw [h]; exact Qa7
       ·rw [h2]; exact (Qd3 (Q6 HOk)).1
      have hset:Q6W x.sets∧tot x.sets≤100000000:=by
       rcases Q6 HWay with ⟨_,_,_,e4,_⟩ | ⟨q,_,_,_,_,_,e6,_⟩ | ⟨q,_,_,_,_,_,_,e7⟩
       ·rw [e4]; exact ⟨Q6g,Nat.zero_le _⟩
       ·rw [e6]; exact ⟨Q6g,Nat.zero_le _⟩
       ·have hzl:=QaG l
        rw [e7]
        exact ⟨(QfY _ _ _ (by omega) (QaI l)).1,Nat.le_trans (QdJ _ _ _).2.1 (by omega)⟩
      obtain ⟨hc1,hc2,hc3⟩:=Q6 HC
      have kf:=Qmd x c sa cs xs aq cq ax cx w13 (Q0u hQ13.ds.1) hQ13.ds.2 (fun s hs=>(hset.1.1 s hs).1) hset.2 hset.1 hq13 hcq hqs ((Q6 HXr).below hb13) hxc (Q6 HXn) (Q6 HRok) hc1 hc2 hc3
      have KF:=Qa kf
      have HB13:=Qa hQ13.bl
      clear y0 y1 y2 y3 y4 y5 lY
      obtain ⟨⟨z0,z1,z2,z3,z4,z5⟩,_⟩:=Qh hQ13.hx
      have lX:=Qb hQ13.hx
      clear kf hQ13 hq13 hqs hset hc1 hc2 hc3 hb13 KL HQ12
      go_wp2_with fail
      refine (Q6 KF).mono ?_
      rintro e w14 ⟨rfl,hb14⟩
      have HB14:=Qa ((Q6 HB13).trans (hb14.mono (Q6 HB13).size))
      clear hb14 KF HB13 z0 z1 z2 z3 z4 z5 lX
      go_wp2_with fail
      go_ret
      exact ⟨_,rfl,Q6 HRe,Q6 HB14⟩
set_option maxRecDepth 100000 in
set_option maxHeartbeats 2000000 in
theorem Qgs (l:List Ev) (a:Option Addr) (c N:Nat) (b:ByteArray) (stream:Bool) (w:World) (hrow:RowAt w N a (evC l)) (hN:N≤w.heap.size) (hl:l.length≤1048576) (hz:Q2d l) (hb:b.size≤maxLen) :
  Calls Tryz.prog 16 #[.slice a l.length c,.string b,.bool stream] w fun e w'=>e=.returned (.bool true)∧Below w.heap.size w w':=by
 have k1:=Q5Q l a c N w hrow hN (by omega)
 have HRow:=Qa (fun W (h:Below N w W)=>hrow.below h)
 have K1:=Qa k1
 have HZ:=Qa hz
 clear k1 hrow hz
 go_enter Tryz.func16,Tryz.ntmps16
 go_wp2_with fail
 refine (Q6 K1).mono ?_
 rintro e w1 ⟨⟨v,rfl,hroom⟩,b1⟩
 obtain ⟨g,rfl,_,hg,hgrow⟩:=hroom.row
 have HRoom:=Qa hroom
 have HB1:=Qa b1
 have hs1:w.heap.size≤w1.heap.size:=b1.size
 have k2:=Qb7 l (some ⟨g,0,none⟩) (l.length+1) w1.heap.size b stream w1 hgrow (Nat.le_refl _) hl (Q6 HZ) hb
 have K2:=Qa k2
 clear hroom b1 k2 hgrow K1
 go_wp2_with fail
 refine (Q6 K2).mono ?_
 rintro e w2 ⟨s,rfl,hs,b2⟩
 have HS:=Qa hs
 have HRoom2:=Qa ((Q6 HRoom).below b2)
 have HB2:=Qa ((Q6 HB1).trans (b2.mono hs1))
 have hs2:w.heap.size≤w2.heap.size:=Nat.le_trans hs1 b2.size
 have k3:=Qcm l a c N b stream w2 (Q6 HRow _ ((Q6 HB2).mono hN)) (Nat.le_trans hN hs2) hl (Q6 HZ) hb
 have K3:=Qa k3
 clear hs b2 k3 K2 HRoom HB1
 go_wp2_with fail
 refine (Q6 K3).mono ?_
 rintro e w3 ⟨t,rfl,ht,b3⟩
 have hst:s=t:=Qj3 l b stream (Q6 HS) ht
 subst hst
 have HRoom3:=Qa ((Q6 HRoom2).below b3)
 have HB3:=Qa ((Q6 HB2).trans (b3.mono hs2))
 have hs3:w.heap.size≤w3.heap.size:=Nat.le_trans hs2 b3.size
 have k4:=Q5d l (.slice (some ⟨g,0,none⟩) l.length (l.length+1)) a c _ N w3 (Q6 HRoom3) (Q6 HRow _ ((Q6 HB3).mono hN)) (by omega)
 have K4:=Qa k4
 clear ht b3 k4 K3 HRoom2 HB2 HRoom3 HS
 go_wp2_with fail
 refine (Q6 K4).mono ?_
 rintro e w4 ⟨rfl,b4⟩
 have HB4:=Qa ((Q6 HB3).trans (b4.mono hs3))
 clear b4 K4 HB3
 go_wp2_with fail
 go_ret
 exact ⟨rfl,Q6 HB4⟩
end Go.Proofs.YtdhobdmhnocbgabGreatDoor
