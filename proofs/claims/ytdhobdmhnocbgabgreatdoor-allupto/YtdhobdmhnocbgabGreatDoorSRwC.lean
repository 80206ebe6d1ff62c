import Derived.Test.YtdhobdmhnocbgabGreatDoorSWellY
import Derived.Test.YtdhobdmhnocbgabGreatDoorSRefD
import Derived.Test.YtdhobdmhnocbgabGreatDoorSMsgx
namespace Go.Proofs.YtdhobdmhnocbgabGreatDoor
open Go.RowKit Zr
theorem Q2P (n most:Int) (w:World):Calls Tryz.prog 84 #[.int .i64 n,.int .i64 most] w fun e w'=>Q1V (0≤n∧n≤most) e∧w'=w:=by
 by_cases c1:0≤n
 ·by_cases c2:n≤most
  ·go_enter Tryz.func84,Tryz.ntmps84
   go_wp2_with fail
   go_ret
   exact ⟨⟨_,rfl,by simp [c1]; omega⟩,rfl⟩
  ·go_enter Tryz.func84,Tryz.ntmps84
   go_wp2_with fail
   go_ret
   exact ⟨⟨_,rfl,by simp; omega⟩,rfl⟩
 ·go_enter Tryz.func84,Tryz.ntmps84
  go_wp2_with fail
  go_ret
  exact ⟨⟨_,rfl,by simp; omega⟩,rfl⟩
set_option maxRecDepth 100000 in
set_option maxHeartbeats 1000000 in
theorem Q9Q (s:ByteArray) (w:World) (hs:s.size≤65535) :
  Calls Tryz.prog 125 #[.string s] w fun e w'=>e=.returned (.int .i64 (Q1u s))∧w'=w:=by
 have hle:=Q4f s
 obtain ⟨n,hn⟩:∃ n,Q1u s=n:=⟨_,rfl⟩
 rw [hn] at hle ⊢
 have HN:=Qa hn
 clear hn
 go_enter Tryz.func125,Tryz.ntmps125
 go_wp2_with fail
 go_loop [3] (fun i=>∃ j:Nat,1≤j∧j≤s.size+1∧j≤256∧i=.int .i64 j∧Hid (∀ k,1≤k→k < j→n≠k)) (fun i=>s.size+1 - (intOf i).toNat)
 case atStart=>exact ⟨1,by omega,by omega,by omega,rfl,fun k h1 h2=>by omega⟩
 case round =>
  obtain ⟨j,hj1,hj2,hj3,rfl,hno⟩:=hrel
  by_cases c1:j≤s.size
  ·by_cases c2:j≤255
   ·have hg:=Q10 s (j - 1) (by omega)
    have hl:=Q20 s (j - 1)
    have hjj:((j:Int) - 1)=((j - 1:Nat):Int):=by omega
    have hex:(s.extract 0 j).size≤281474976710656:=by rw [ByteArray.size_extract]; omega
    by_cases c3:bt s (j - 1)=0
    ·have c3':((bt s (j - 1):Int) == 0)=true:=by rw [beq_iff_eq]; omega
     have hiff:=Q63 s j hj1 c1
     rw [Q6 HN] at hiff
     cases hb:Q09 (s.extract 0 j) with
     | true =>
      have hnj:=hiff.1 hb
      have HNJ:=Qa hnj
      have HB:=Qa hb
      clear hnj hb hiff hle
      rw [c3] at hg
      clear c3
      go_wp2_with fail
      refine (Q5e (s.extract 0 j) _ hex).mono ?_
      rw [Q6 HB]
      rintro e w' ⟨rfl,rfl⟩
      go_wp2_with fail
      go_ret
      exact ⟨by rw [Q6 HNJ]; rfl,rfl⟩
     | false =>
      have hnj:n≠j:=fun e=>by rw [hiff.2 e] at hb; simp at hb
      have HNo:Hid (∀ k,1≤k→k < j+1→n≠k):=fun k h1 h2=>by
       by_cases e:k=j
       ·subst e; exact hnj
       ·exact Q6 hno k h1 (by omega)
      have HB:=Qa hb
      clear hnj hb hiff hle
      rw [c3] at hg
      clear c3
      go_wp2_with fail
      refine (Q5e (s.extract 0 j) _ hex).mono ?_
      rw [Q6 HB]
      rintro e w' ⟨rfl,rfl⟩
      go_wp2_with fail
      go_round
      case rel=>exact ⟨j+1,by omega,by omega,by omega,by go_num,HNo⟩
      case measure=>simp [intOf]; omega
    ·have c3':((bt s (j - 1):Int) == 0)=false:=beq_eq_false_iff_ne.2 (by omega)
     have HNo:Hid (∀ k,1≤k→k < j+1→n≠k):=fun k h1 h2=>by
      by_cases e:k=j
      ·subst e
       intro e2
       have h3:=QgK s (by rw [Q6 HN]; omega)
       rw [Q6 HN,e2] at h3
       exact c3 h3
      ·exact Q6 hno k h1 (by omega)
     clear hle c3
     go_wp2_with fail
     go_round
     case rel=>exact ⟨j+1,by omega,by omega,by omega,by go_num,HNo⟩
     case measure=>simp [intOf]; omega
   ·have hn0:n=0:=by
     false_or_by_contra
     exact Q6 hno n (by omega) (by omega) rfl
    have HN0:=Qa hn0
    clear hn0 hle
    go_wp2_with fail
    go_ret
    exact ⟨by rw [Q6 HN0]; rfl,rfl⟩
  ·have hn0:n=0:=by
    false_or_by_contra
    exact Q6 hno n (by omega) (by omega) rfl
   have HN0:=Qa hn0
   clear hn0 hle
   go_wp2_with fail
   go_ret
   exact ⟨by rw [Q6 HN0]; rfl,rfl⟩
set_option maxHeartbeats 400000 in
theorem Qif (t:Int) (s:ByteArray) (w:World) (ht:t < 0) :
  Calls Tryz.prog 117 #[.int .i64 t,.string s] w fun e w'=>e=.returned (.bool true)∧w'=w:=by
 have n1:(t == 1)=false:=beq_eq_false_iff_ne.2 (by omega)
 have n2:(t == 28)=false:=beq_eq_false_iff_ne.2 (by omega)
 have n3:(t == 16)=false:=beq_eq_false_iff_ne.2 (by omega)
 have n4:(t == 41)=false:=beq_eq_false_iff_ne.2 (by omega)
 have n5:(t == 33)=false:=beq_eq_false_iff_ne.2 (by omega)
 go_enter Tryz.func117,Tryz.ntmps117
 go_wp2_with fail
 go_ret
 exact ⟨rfl,rfl⟩
def Q14 (d:ByteArray):Nat→ByteArray
 | 0=>d
 | j+1=>(Q14 d j).extract (Q1u (Q14 d j)) (Q14 d j).size
theorem Q9x (d:ByteArray):∀ j,(Q14 d j).size≤d.size:=by
 intro j
 induction j with
 | zero=>exact Nat.le_refl _
 | succ j ih=>rw [Q14,ByteArray.size_extract]; omega
theorem QjD (t:Nat) (d:ByteArray) (hn:Q01 t≠0):Q1Y t d↔(∀ i,i < Q01 t→Q1u (Q14 d i)≠0)∧(Q14 d (Q01 t)).size=Q1I t:=by
 have h1:=Q4f d
 by_cases c1:t=2∨t=5∨t=12
 ·have e1:Q01 t=1:=by unfold Q01; rw [if_pos c1]
  have e2:Q1I t=0:=by unfold Q1I; rw [if_pos c1]
  rw [e1,e2,Q5c d t c1,QiB d]
  have e3:(Q14 d 1).size=d.size - Q1u d:=by simp only [Q14]; rw [ByteArray.size_extract]; omega
  rw [e3]
  constructor
  ·intro ⟨h2,h3⟩
   exact ⟨fun i hi=>by
    have:i=0:=by omega
    subst this
    exact h2,h3⟩
  ·intro ⟨h2,h3⟩
   exact ⟨h2 0 (by omega),h3⟩
 ·have e0:t=6:=by unfold Q01 at hn; rw [if_neg c1] at hn; split at hn <;> omega
  subst e0
  have e1:Q01 6=2:=rfl
  have e2:Q1I 6=20:=rfl
  rw [e1,e2,Q6I d,QiC d]
  have h2:=Q4f (d.extract (Q1u d) d.size)
  have e4:Q14 d 1=d.extract (Q1u d) d.size:=rfl
  have e5:(d.extract (Q1u d) d.size).size=d.size - Q1u d:=by rw [ByteArray.size_extract]; omega
  have e3:(Q14 d 2).size=d.size - Q1u d - Q1u (d.extract (Q1u d) d.size):=by
   show ((Q14 d 1).extract (Q1u (Q14 d 1)) (Q14 d 1).size).size=_
   rw [e4,ByteArray.size_extract]; omega
  rw [e3]
  constructor
  ·intro ⟨h3,h4,h5⟩
   refine ⟨fun i hi=>?_,h5⟩
   by_cases c:i=0
   ·subst c; exact h3
   ·have:i=1:=by omega
    subst this; rw [e4]; exact h4
  ·intro ⟨h3,h4⟩
   exact ⟨h3 0 (by omega),by have:=h3 1 (by omega); rw [e4] at this; exact this,h4⟩
theorem Q7U (t:Nat) (w:World):Calls Tryz.prog 116 #[.int .i64 t] w fun e w'=>e=.returned (.tuple #[.int .i64 (Q01 t),.int .i64 (Q1I t)])∧w'=w:=by
 have h:=Q8o (t:Int) w
 by_cases c1:t=2∨t=5∨t=12
 ·have c1':(t:Int)=2∨(t:Int)=5∨(t:Int)=12:=by omega
  rw [if_pos c1',if_pos c1'] at h
  have e1:Q01 t=1:=by unfold Q01; rw [if_pos c1]
  have e2:Q1I t=0:=by unfold Q1I; rw [if_pos c1]
  rw [e1,e2]; exact h
 ·have c1':¬ ((t:Int)=2∨(t:Int)=5∨(t:Int)=12):=by omega
  rw [if_neg c1',if_neg c1'] at h
  by_cases c2:t=6
  ·rw [if_pos (by omega),if_pos (by omega)] at h
   subst c2; exact h
  ·rw [if_neg (by omega),if_neg (by omega)] at h
   have e1:Q01 t=0:=by unfold Q01; rw [if_neg c1,if_neg c2]
   have e2:Q1I t=0:=by unfold Q1I; rw [if_neg c1,if_neg c2]
   rw [e1,e2]; exact h
def Ql9 (C P:Prop) (e:Ending):Prop:=∃ b,e=.returned (.bool b)∧(C→(b=true↔P))
set_option maxRecDepth 100000 in
set_option maxHeartbeats 1000000 in
theorem Qct (t:Int) (d:ByteArray) (w:World) :
  Calls Tryz.prog 158 #[.int .i64 t,.string d] w fun e w'=>Ql9 (0≤t) (Q1Y t.toNat d) e∧w'=w:=by
 by_cases cs:d.size≤65535
 ·by_cases ct:t < 0
  ·have hn:¬ (t=2∨t=5∨t=12):=by omega
   have key:=Q8o t w
   rw [if_neg hn,if_neg hn,if_neg (by omega),if_neg (by omega)] at key
   have Key:=Qa key
   clear key hn
   go_enter Tryz.func158,Tryz.ntmps158
   go_wp2_with fail
   refine (Q6 Key).mono ?_
   rintro e w1 ⟨rfl,hw1⟩
   rw [hw1]
   clear hw1
   go_wp2_with fail
   refine (Qif t d _ ct).mono ?_
   rintro e w2 ⟨rfl,hw2⟩
   rw [hw2]
   clear hw2
   go_wp2_with fail
   go_ret
   exact ⟨⟨_,rfl,fun h=>by omega⟩,rfl⟩
  ·obtain ⟨t,rfl⟩:=Int.eq_ofNat_of_zero_le (show 0≤t by omega)
   rw [Int.toNat_natCast]
   have key:=Q7U t
   by_cases hn:Q01 t=0
   ·have hW:Q1Y t d↔Q2q t d=true:=by
     rw [Q3S d t (fun c=>by unfold Q01 at hn; rw [if_pos c] at hn; omega) (fun c=>by unfold Q01 at hn; rw [if_neg (by omega),if_pos c] at hn; omega)]
     exact ⟨fun h=>h.2,fun h=>⟨cs,h⟩⟩
    have HW:=Qa hW
    rw [hn] at key
    have Key:=Qa key
    clear key hW hn
    generalize Q1I t=more at *
    go_enter Tryz.func158,Tryz.ntmps158
    go_wp2_with fail
    refine (Q6 Key _).mono ?_
    rintro e w1 ⟨rfl,hw1⟩
    rw [hw1]
    clear hw1
    go_wp2_with fail
    refine (QcQ t d _ cs).mono ?_
    rintro e w2 ⟨rfl,hw2⟩
    rw [hw2]
    clear hw2
    go_wp2_with fail
    go_ret
    exact ⟨⟨_,rfl,fun _=>(Q6 HW).symm⟩,rfl⟩
   ·have HW:=Qa (QjD t d hn)
    have hm2:=Q5x t
    have Key:=Qa key
    have hm0:((Q01 t:Int) == 0)=false:=beq_eq_false_iff_ne.2 (by omega)
    have hrest:Q1I t≤20:=by unfold Q1I; split <;> (try split) <;> omega
    clear key
    generalize Q1Y t d=W at *
    generalize Q01 t=m at *
    generalize Q1I t=more at *
    clear hn
    go_enter Tryz.func158,Tryz.ntmps158
    go_wp2_with fail
    refine (Q6 Key _).mono ?_
    rintro e w1 ⟨rfl,hw1⟩
    rw [hw1]
    clear hw1
    go_wp2_with fail
    go_loop [1,5] (fun s k=>∃ j:Nat,j≤m∧s=.string (Q14 d j)∧k=.int .i64 ((m - j:Nat):Int)∧Hid (∀ i,i < j→Q1u (Q14 d i)≠0)) (fun _ k=>(intOf k).toNat)
    case atStart=>exact ⟨0,Nat.zero_le _,rfl,rfl,fun i hi=>by omega⟩
    case round =>
     obtain ⟨j,hj,rfl,rfl,hno⟩:=hrel
     have hsz:=Q9x d j
     by_cases cj:j < m
     ·have hnx:Q14 d (j+1)=(Q14 d j).extract (Q1u (Q14 d j)) (Q14 d j).size:=rfl
      have hll:=Q4f (Q14 d j)
      have HBad:Hid (Q1u (Q14 d j)=0→¬ W):=fun h1 h2=>((Q6 HW).1 h2).1 j cj h1
      have HGood:Hid (Q1u (Q14 d j)≠0→∀ i,i < j+1→Q1u (Q14 d i)≠0):=fun h1 i hi=>by
       by_cases e:i=j
       ·subst e; exact h1
       ·exact Q6 hno i (by omega)
      have HNx:=Qa hnx
      clear hnx
      generalize Q14 d j=s at *
      have hkj:((m - j:Nat):Int)=(m:Int) - j:=by omega
      have key2:=fun w=>Q9Q s w (by omega)
      have Key2:=Qa key2
      clear key2
      generalize hln:Q1u s=n at *
      by_cases cn:n=0
      ·subst cn
       go_wp2_with fail
       refine (Q6 Key2 _).mono ?_
       rintro e w2 ⟨rfl,hw2⟩
       rw [hw2]
       clear hw2
       go_wp2_with fail
       go_ret
       exact ⟨⟨_,rfl,fun _=>⟨fun h=>by simp at h,fun h=>absurd h (Q6 HBad (by simp))⟩⟩,rfl⟩
      ·have cn':((n:Int) == 0)=false:=beq_eq_false_iff_ne.2 (by omega)
       have hgood:=Q6 HGood cn
       have HG:=Qa hgood
       clear hgood
       go_wp2_with fail
       refine (Q6 Key2 _).mono ?_
       rintro e w2 ⟨rfl,hw2⟩
       rw [hw2]
       clear hw2
       go_wp2_with fail
       go_round
       case rel=>exact ⟨j+1,by omega,by rw [Q6 HNx],by go_num,HG⟩
       case measure=>simp [intOf]; omega
     ·have hjm:j=m:=by omega
      subst hjm
      have hW2:W↔(Q14 d j).size=more:=by
       rw [Q6 HW]
       exact ⟨fun h=>h.2,fun h=>⟨Q6 hno,h⟩⟩
      have HW2:=Qa hW2
      clear hW2
      generalize Q14 d j=s at *
      rw [Nat.sub_self]
      go_wp2_with fail
      go_ret
      exact ⟨⟨_,rfl,fun _=>by rw [Q6 HW2]; simp; omega⟩,rfl⟩
 ·have HW:Hid (¬ Q1Y t.toNat d):=fun h=>cs h.1
  go_enter Tryz.func158,Tryz.ntmps158
  go_wp2_with fail
  go_ret
  exact ⟨⟨_,rfl,fun _=>by simp [Q6 HW]⟩,rfl⟩
set_option maxRecDepth 100000 in
set_option maxHeartbeats 1000000 in
theorem QaD (x:RI) (w:World) (hn:x.name.size≤281474976710656) :
  Calls Tryz.prog 124 #[Q55 x] w fun e w'=>Q1V (Q2l x) e∧Below w.heap.size w w':=by
 unfold Q55
 have HR:Hid (Q2l x↔Q09 x.name=true∧Q1J x.ty∧Q1J x.cl∧(0≤x.ttl∧x.ttl≤4294967295)∧Q1Y x.ty.toNat x.data):=Iff.rfl
 unfold Q1J at HR
 generalize Q2l x=ok at *
 obtain ⟨nm,ty,cl,ttl,dt⟩:=x
 simp only at hn HR ⊢
 have key:=fun w=>Q5e nm w hn
 have Key:=Qa key
 clear key
 generalize Q09 nm=bn at *
 have hB1:∀ o,Below w.heap.size w (w.alloc o):=fun o=>(Below.refl _ _).alloc (Nat.le_refl _) _
 have HB1:=Qa hB1
 clear hB1
 go_enter Tryz.func124,Tryz.ntmps124
 go_wp2_with fail
 refine (Q6 Key _).mono ?_
 rintro e w1 ⟨rfl,hw1⟩
 rw [hw1]
 clear hw1 w1
 go_wp2_with fail
 refine (Qct ty dt _).mono ?_
 rintro e w1 ⟨⟨bd,rfl,hd⟩,hw1⟩
 have HD:=Qa hd
 rw [hw1]
 clear hw1 w1 hd
 go_wp2_with fail
 refine (Q2P ty 65535 _).mono ?_
 rintro e w1 ⟨⟨bt,rfl,ht⟩,hw1⟩
 have HT:=Qa ht
 rw [hw1]
 clear hw1 w1 ht
 go_wp2_with fail
 refine (Q2P cl 65535 _).mono ?_
 rintro e w1 ⟨⟨bc,rfl,hc⟩,hw1⟩
 have HC:=Qa hc
 rw [hw1]
 clear hw1 w1 hc
 go_wp2_with fail
 refine (Q2P ttl 4294967295 _).mono ?_
 rintro e w1 ⟨⟨bl,rfl,hl⟩,hw1⟩
 have HL:=Qa hl
 rw [hw1]
 clear hw1 w1 hl Key
 cases bn with
 | false =>
  go_wp2_with fail
  go_ret
  exact ⟨⟨_,rfl,⟨fun h=>by simp at h,fun h=>absurd ((Q6 HR).1 h).1 (by simp)⟩⟩,Q6 HB1 _⟩
 | true =>
  cases bt with
  | false =>
   cases bd with
   | false =>
    go_wp2_with fail
    go_ret
    exact ⟨⟨_,rfl,⟨fun h=>by simp at h,fun h=>absurd ((Q6 HT).2 ((Q6 HR).1 h).2.1) (by simp)⟩⟩,Q6 HB1 _⟩
   | true =>
    go_wp2_with fail
    go_ret
    exact ⟨⟨_,rfl,⟨fun h=>by simp at h,fun h=>absurd ((Q6 HT).2 ((Q6 HR).1 h).2.1) (by simp)⟩⟩,Q6 HB1 _⟩
  | true =>
   have hty:=(Q6 HT).1 (by simp)
   have hD:=Q6 HD hty.1
   have HD2:=Qa hD
   have HTy:=Qa hty
   clear hD hty HD
   cases bd with
   | false =>
    go_wp2_with fail
    go_ret
    exact ⟨⟨_,rfl,⟨fun h=>by simp at h,fun h=>absurd ((Q6 HD2).2 ((Q6 HR).1 h).2.2.2.2) (by simp)⟩⟩,Q6 HB1 _⟩
   | true =>
    cases bc with
    | false =>
     go_wp2_with fail
     go_ret
     exact ⟨⟨_,rfl,⟨fun h=>by simp at h,fun h=>absurd ((Q6 HC).2 ((Q6 HR).1 h).2.2.1) (by simp)⟩⟩,Q6 HB1 _⟩
    | true =>
     go_wp2_with fail
     go_ret
     refine ⟨⟨_,rfl,?_⟩,Q6 HB1 _⟩
     rw [Q6 HL,Q6 HR]
     exact ⟨fun h=>⟨by simp,Q6 HTy,(Q6 HC).1 (by simp),h,(Q6 HD2).1 (by simp)⟩,fun h=>h.2.2.2.1⟩
set_option maxRecDepth 100000 in
set_option maxHeartbeats 1000000 in
theorem Q9S (l:List RI) (x:RI) (part:Nat) (a:Option Addr) (c N:Nat) (w:World) (hrow:RowAt w N a (rcI l)) (hN:N≤w.heap.size) (hl:l.length≤65535) :
  Calls Tryz.prog 45 #[.slice a l.length c,.agg #[.string x.name,.int .i64 x.ty,.int .i64 x.cl,.int .i64 x.ttl,.string x.data],.int .i64 part] w fun e w'=>Q1V (Q5S l x part) e∧Below w.heap.size w w':=by
 have hB1:∀ o,Below w.heap.size w (w.alloc o):=fun o=>(Below.refl _ _).alloc (Nat.le_refl _) _
 have HB1:=Qa hB1
 clear hB1
 by_cases d:x.ty=41
 ·have d':(x.ty != 41)=false:=by simp [d]
  have hM:Q5S l x part↔((∃ y,y∈l∧y.ty=41)∨part≠2∨x.name≠⟨#[0]⟩):=⟨fun h=>h.2,fun h=>⟨d,h⟩⟩
  have HM:=Qa hM
  have HRow:=Qa (fun W (hb:Below N w W)=>hrow.below hb)
  clear d hM hrow
  generalize Q5S l x part=M at *
  go_enter Tryz.func45,Tryz.ntmps45
  go_wp2_with fail
  go_loop [7] (fun i=>∃ j:Nat,j≤l.length∧i=.int .i64 j∧Hid (∀ k (h:k < l.length),k < j→l[k].ty≠41)) (fun i=>l.length - (intOf i).toNat)
  case atStart=>exact ⟨0,Nat.zero_le _,rfl,fun k _ h=>by omega⟩
  case round =>
   obtain ⟨j,hj,rfl,hno⟩:=hrel
   by_cases c1:j < l.length
   ·obtain ⟨b,o,rfl,hb,x0,x1,x2,x3,x4⟩:=Q2R (Q6 HRow w (Below.refl _ _)) j c1
    clear x0 x2 x3 x4
    have x1:∀ B,(w.alloc B).cell? ⟨b,o+j * 5+1,none⟩=some (.int .i64 l[j].ty):=fun B=>((Q6 HB1 B).cell (p:=⟨b,o+j * 5+1,none⟩) (by show b < w.heap.size; omega)).trans x1
    generalize hty:l[j].ty=ty at x1
    by_cases c2:ty=41
    ·have c2':(ty == 41)=true:=by rw [beq_iff_eq]; omega
     have hany:∃ y,y∈l∧y.ty=41:=⟨l[j],List.getElem_mem c1,by rw [hty,c2]⟩
     have HA:=Qa hany
     clear hany c2 hty
     go_wp2_with fail
     go_ret
     exact ⟨⟨_,rfl,⟨fun _=>(Q6 HM).2 (.inl (Q6 HA)),fun _=>rfl⟩⟩,Q6 HB1 _⟩
    ·have c2':(ty == 41)=false:=beq_eq_false_iff_ne.2 (by omega)
     have HT:=Qa hty
     have HC:=Qa c2
     clear hty c2
     go_wp2_with fail
     go_round
     case rel=>exact ⟨j+1,by omega,by go_num,fun k hk hlt=>by
      by_cases hkj:k=j
      ·subst hkj; rw [Q6 HT]; exact Q6 HC
      ·exact Q6 hno k hk (by omega)⟩
     case measure=>simp [intOf]; omega
   ·have hany:¬ ∃ y,y∈l∧y.ty=41:=by
     intro ⟨y,hy,hy2⟩
     obtain ⟨k,hk,rfl⟩:=List.getElem_of_mem hy
     exact Q6 hno k hk (by omega) hy2
    have HA:=Qa hany
    clear hany
    have HB:=Qa (Q6e x.name)
    by_cases c3:part=2
    ·subst c3
     go_wp2_with fail
     go_ret
     refine ⟨⟨_,rfl,?_⟩,Q6 HB1 _⟩
     rw [Q6 HM,Q6 HB]
     simp [Q6 HA]
    ·have c3':((part:Int) != 2)=true:=by rw [bne_iff_ne]; omega
     have HC:=Qa c3
     clear c3
     go_wp2_with fail
     go_ret
     exact ⟨⟨_,rfl,⟨fun _=>(Q6 HM).2 (.inr (.inl (Q6 HC))),fun _=>rfl⟩⟩,Q6 HB1 _⟩
 ·have d':(x.ty != 41)=true:=by rw [bne_iff_ne]; exact d
  have HM:Hid (¬ Q5S l x part):=fun h=>d h.1
  clear d hrow
  go_enter Tryz.func45,Tryz.ntmps45
  go_wp2_with fail
  go_ret
  exact ⟨⟨_,rfl,⟨fun h=>by simp at h,fun h=>absurd h (Q6 HM)⟩⟩,Q6 HB1 _⟩
theorem Q2x {B:Nat} {a w:World} (h:Below B a w):Below B a w.drew:=⟨h.os,h.tape,h.output,h.size,h.block⟩
theorem Qf5 {w:World} {N:Nat} {a:Option Addr} {l:List RI} (h:RowAt w N a (rcI l)) (j:Nat):RowAt w N a (rcI (l.take j)):=by
 intro hx
 have hp:∀ (k:Nat) (u:Value),(rcI (l.take j))[k]? = some u→(rcI l)[k]? = some u:=by
  intro k u hu
  have e:rcI l=rcI (l.take j)++rcI (l.drop j):=by unfold rcI; rw [←List.flatMap_append,List.take_append_drop]
  rw [e,List.getElem?_append_left (List.getElem?_eq_some_iff.1 hu).1]
  exact hu
 have hne:rcI l≠[]:=fun e=>by
  cases hh:rcI (l.take j) with
  | nil=>exact hx hh
  | cons u r =>
   have:=hp 0 u (by rw [hh]; rfl)
   rw [e] at this
   simp at this
 obtain ⟨b,o,h1,h2,h3⟩:=h hne
 exact ⟨b,o,h1,h2,fun k u hu=>h3 k u (hp k u hu)⟩
set_option maxRecDepth 100000 in
set_option maxHeartbeats 2000000 in
theorem Q5J (l:List RI) (part:Nat) (a:Option Addr) (c N:Nat) (w:World) (hrow:RowAt w N a (rcI l)) (hN:N≤w.heap.size) (hz:Q4O l) (hc:l.length≤c) :
  Calls Tryz.prog 86 #[.slice a l.length c,.int .i64 part] w fun e w'=>Q1V (Q1H l part) e∧Below w.heap.size w w':=by
 have HRow:=Qa hrow
 have HZ:=Qa hz
 clear hrow hz
 by_cases cl:65535 < l.length
 ·go_enter Tryz.func86,Tryz.ntmps86
  go_wp2_with fail
  go_ret
  exact ⟨⟨_,rfl,⟨fun h=>by simp at h,fun h=>absurd h.1 (by omega)⟩⟩,Below.refl _ _⟩
 ·go_enter Tryz.func86,Tryz.ntmps86
  go_wp2_with fail
  go_loopw [5] (fun i w'=>∃ (j:Nat),j≤l.length∧i=.int .i64 j∧Hid (Below w.heap.size w w')∧Hid (∀ k (h:k < l.length),k < j→Q2l l[k]∧¬ Q5S (l.take k) l[k] part)) (fun i _=>l.length - (intOf i).toNat)
  case atStart=>exact ⟨0,Nat.zero_le _,rfl,Below.refl _ _,fun k _ hk=>by omega⟩
  case round =>
   obtain ⟨j,hj,rfl,hB,hq⟩:=hrel
   by_cases cj:j < l.length
   ·obtain ⟨b,o,rfl,hb,x0,x1,x2,x3,x4⟩:=Q2R ((Q6 HRow).below ((Q6 hB).mono hN)) j cj
    have hsz:=(Q6 HZ j cj).1
    have HNo:Hid (¬ (Q2l l[j]∧¬ Q5S (l.take j) l[j] part)→¬ Q1H l part):=fun h1 h2=>h1 (h2.2 j cj)
    have HYes:Hid (Q2l l[j]∧¬ Q5S (l.take j) l[j] part→∀ k (h:k < l.length),k < j+1→Q2l l[k]∧¬ Q5S (l.take k) l[k] part):=fun h1 k hk hkj=>by
     by_cases e:k=j
     ·subst e; exact h1
     ·exact Q6 hq k hk (by omega)
    have key:=fun w=>QaD l[j] w hsz
    have key2:∀ W,Below N w W→N≤W.heap.size→∀ c,Calls Tryz.prog 45 #[.slice (some ⟨b,o,none⟩) j c,.agg #[.string l[j].name,.int .i64 l[j].ty,.int .i64 l[j].cl,.int .i64 l[j].ttl,.string l[j].data],.int .i64 part] W fun e w'=>Q1V (Q5S (l.take j) l[j] part) e∧Below W.heap.size W w':=by
     intro W hb hs c
     have h1:=Q9S (l.take j) l[j] part (some ⟨b,o,none⟩) c N W (Qf5 ((Q6 HRow).below hb) j) hs (by rw [List.length_take]; omega)
     have e1:(l.take j).length=j:=by rw [List.length_take]; omega
     rw [e1] at h1
     exact h1
    unfold Q55 at key
    have Key:=Qa key
    have Key2:=Qa key2
    clear key key2
    generalize Q5S (l.take j) l[j] part=M at *
    generalize Q2l l[j]=OK at *
    generalize l[j]=x at *
    obtain ⟨nm,ty,kl,ttl,dt⟩:=x
    simp only at *
    have hsB:=(Q6 hB).size
    go_wp2_with fail
    refine (Q6 Key _).mono ?_
    rintro e w1 ⟨⟨v,rfl,hv⟩,hb1⟩
    have hbb:=(Q6 hB).trans (hb1.mono (Q6 hB).size)
    have y0:=(hb1.cell (p:=⟨b,o+j * 5,none⟩) (by show b < _; omega)).trans x0
    have y1:=(hb1.cell (p:=⟨b,o+j * 5+1,none⟩) (by show b < _; omega)).trans x1
    have y2:=(hb1.cell (p:=⟨b,o+j * 5+2,none⟩) (by show b < _; omega)).trans x2
    have y3:=(hb1.cell (p:=⟨b,o+j * 5+3,none⟩) (by show b < _; omega)).trans x3
    have y4:=(hb1.cell (p:=⟨b,o+j * 5+4,none⟩) (by show b < _; omega)).trans x4
    have hs1:=hbb.size
    have HV:=Qa hv
    have HBB:=Qa hbb
    clear hv x0 x1 x2 x3 x4 hbb Key hb1
    cases v with
    | false =>
     go_wp2_with fail
     go_ret
     exact ⟨⟨_,rfl,⟨fun h=>by simp at h,fun h=>absurd h (Q6 HNo fun h2=>absurd ((Q6 HV).2 h2.1) (by simp))⟩⟩,Q6 HBB⟩
    | true =>
     have hi1:(0:Int)≤(j:Int):=by omega
     have hi2:(j:Int)≤(c:Int):=by omega
     have hi3:(j:Int) < (l.length:Int):=by omega
     go_wp2_with fail
     go_cut [5,7] (fun i v w'=>i=.int .i64 j∧∃ b,v=.bool b∧Hid (b=true↔M)∧Hid (Below w.heap.size w w'))
     case first =>
      go_region_held3 (fun w'=>w'.cell? ⟨b,o+j * 5,none⟩=some (.string nm)∧w'.cell? ⟨b,o+j * 5+1,none⟩=some (.int .i64 ty)∧w'.cell? ⟨b,o+j * 5+2,none⟩=some (.int .i64 kl)∧w'.cell? ⟨b,o+j * 5+3,none⟩=some (.int .i64 ttl)∧w'.cell? ⟨b,o+j * 5+4,none⟩=some (.string dt)) (go_keep)
       (first | (go_at_call 45; refine (Q6 Key2 _ (Q2x ((Q6 HBB).mono hN)) (Nat.le_trans hN hs1) _).mono ?_; rintro e w2 ⟨⟨v,rfl,hv⟩,hb2⟩; have z0:w2.cell? ⟨b,o+j * 5,none⟩=some (.string nm):=(hb2.cell (p:=⟨b,o+j * 5,none⟩) (show b < w1.heap.size by omega)).trans y0; have z1:w2.cell? ⟨b,o+j * 5+1,none⟩=some (.int .i64 ty):=(hb2.cell (p:=⟨b,o+j * 5+1,none⟩) (show b < w1.heap.size by omega)).trans y1; have z2:w2.cell? ⟨b,o+j * 5+2,none⟩=some (.int .i64 kl):=(hb2.cell (p:=⟨b,o+j * 5+2,none⟩) (show b < w1.heap.size by omega)).trans y2; have z3:w2.cell? ⟨b,o+j * 5+3,none⟩=some (.int .i64 ttl):=(hb2.cell (p:=⟨b,o+j * 5+3,none⟩) (show b < w1.heap.size by omega)).trans y3; have z4:w2.cell? ⟨b,o+j * 5+4,none⟩=some (.string dt):=(hb2.cell (p:=⟨b,o+j * 5+4,none⟩) (show b < w1.heap.size by omega)).trans y4))
      all_goals go_wp2_with fail
      all_goals go_meet
      all_goals
       have hb3:=Q0x hb2
       exact ⟨rfl,_,rfl,hv,(Q6 HBB).trans (hb3.mono hs1)⟩
     case rest =>
      obtain ⟨rfl,v,rfl,hv,hB3⟩:=hcut
      cases v with
      | true =>
       go_wp2_with fail
       go_ret
       exact ⟨⟨_,rfl,⟨fun h=>by simp at h,fun h=>absurd h (Q6 HNo fun h2=>h2.2 ((Q6 hv).1 (by simp)))⟩⟩,Q6 hB3⟩
      | false =>
       have hyes:=Q6 HYes ⟨(Q6 HV).1 (by simp),fun h=>absurd ((Q6 hv).2 h) (by simp)⟩
       have HY:=Qa hyes
       clear hyes
       go_wp2_with fail
       go_roundw
       case rel=>exact ⟨j+1,by omega,by go_num,hB3,HY⟩
       case measure=>simp [intOf]; omega
   ·go_wp2_with fail
    go_ret
    exact ⟨⟨_,rfl,⟨fun _=>⟨by omega,fun k hk=>Q6 hq k hk (by omega)⟩,fun _=>rfl⟩⟩,Q6 hB⟩
set_option maxRecDepth 100000 in
set_option maxHeartbeats 2000000 in
theorem QjC (m:MI) (v:Value) (N:Nat) (w:World) (h:MsgAt w N v m) (hN:N≤w.heap.size) :
  Calls Tryz.prog 49 #[v] w fun e w'=>Q1V (Q1A m) e∧Below w.heap.size w w':=by
 obtain ⟨a1,c1,a2,c2,a3,c3,a4,c4,rfl,r1,r2,r3,r4,z1,z2,z3,z4,k1,k2,k3,k4⟩:=h
 have HOk:Hid (Q1A m↔(0≤m.id∧m.id≤65535)∧(0≤m.flags∧m.flags≤65535)∧(m.q.length≤65535∧∀ i (h:i < m.q.length),Q2J m.q[i])∧Q1H m.a 0∧Q1H m.u 1∧Q1H m.x 2):=Iff.rfl
 generalize Q1A m=ok at *
 obtain ⟨id,fl,q,a,u,x⟩:=m
 simp only at r1 r2 r3 r4 z1 z2 z3 z4 k1 k2 k3 k4 HOk ⊢
 have key2:=fun W (hb:Below N w W) (hs:N≤W.heap.size)=>Q5J a 0 a2 c2 N W (r2.below hb) hs z2 k2
 have key3:=fun W (hb:Below N w W) (hs:N≤W.heap.size)=>Q5J u 1 a3 c3 N W (r3.below hb) hs z3 k3
 have key4:=fun W (hb:Below N w W) (hs:N≤W.heap.size)=>Q5J x 2 a4 c4 N W (r4.below hb) hs z4 k4
 have K2:=Qa key2
 have K3:=Qa key3
 have K4:=Qa key4
 have R1:=Qa (fun W (hb:Below N w W)=>r1.below hb)
 have Z1:=Qa z1
 clear key2 key3 key4 r1 r2 r3 r4 z1 z2 z3 z4 k1 k2 k3 k4
 generalize Q1H a 0=pa at *
 generalize Q1H u 1=pu at *
 generalize Q1H x 2=px at *
 generalize hB0:(w.alloc (.cells #[.int .i64 id,.int .i64 fl,.slice a1 q.length c1,.slice a2 a.length c2,.slice a3 u.length c3,.slice a4 x.length c4] 32))=W0
 have hW0:W0.heap[w.heap.size]? = some (.cells #[.int .i64 id,.int .i64 fl,.slice a1 q.length c1,.slice a2 a.length c2,.slice a3 u.length c3,.slice a4 x.length c4] 32 (0,0)):=by rw [←hB0]; exact heap_alloc_new _ _
 have hB1:Below w.heap.size w W0:=by rw [←hB0]; exact (Below.refl _ _).alloc (Nat.le_refl _) _
 have hz0:w.heap.size+1=W0.heap.size:=by rw [←hB0]; simp
 have HB0:=Qa hB0
 clear hB0
 go_enter Tryz.func49,Tryz.ntmps49
 go_wp2_with fail
 rw [Q6 HB0]
 clear HB0
 obtain ⟨⟨b0,b1,b2,b3,b4,b5⟩,y0,y1,y2,y3,y4,y5⟩:=Qh hW0
 have HW0:=Qa hW0
 clear hW0
 refine (Q2P id 65535 _).mono ?_
 rintro e w2 ⟨⟨v1,rfl,hv⟩,hw2⟩
 have V1:=Qa hv
 rw [hw2]
 clear hv hw2 w2
 go_wp2_with fail
 refine (Q2P fl 65535 _).mono ?_
 rintro e w2 ⟨⟨v2,rfl,hv⟩,hw2⟩
 have V2:=Qa hv
 rw [hw2]
 clear hv hw2 w2
 cases v1 with
 | false =>
  go_wp2_with fail
  go_ret
  exact ⟨⟨_,rfl,⟨fun h=>by simp at h,fun h=>absurd ((Q6 V1).2 ((Q6 HOk).1 h).1) (by simp)⟩⟩,hB1⟩
 | true =>
 cases v2 with
 | false =>
  go_wp2_with fail
  go_ret
  exact ⟨⟨_,rfl,⟨fun h=>by simp at h,fun h=>absurd ((Q6 V2).2 ((Q6 HOk).1 h).2.1) (by simp)⟩⟩,hB1⟩
 | true =>
 by_cases cq:65535 < q.length
 ·go_wp2_with fail
  go_ret
  exact ⟨⟨_,rfl,⟨fun h=>by simp at h,fun h=>absurd ((Q6 HOk).1 h).2.2.1.1 (by omega)⟩⟩,hB1⟩
 ·go_wp2_with fail
  go_loopw [5] (fun i w'=>∃ (j:Nat),j≤q.length∧i=.int .i64 j∧Hid (w'.heap[w.heap.size]? = some (.cells #[.int .i64 id,.int .i64 fl,.slice a1 q.length c1,.slice a2 a.length c2,.slice a3 u.length c3,.slice a4 x.length c4] 32 (0,0)))∧Hid (Below w.heap.size w w')∧Hid (∀ k (h:k < q.length),k < j→Q2J q[k])) (fun i _=>q.length - (intOf i).toNat)
  case atStart=>exact ⟨0,Nat.zero_le _,rfl,HW0,hB1,fun k _ hk=>by omega⟩
  case round =>
   obtain ⟨j,hj,rfl,hX,hB,hq⟩:=hrel
   clear b0 b1 b2 b3 b4 b5 y0 y1 y2 y3 y4 y5
   obtain ⟨⟨b0,b1,b2,b3,b4,b5⟩,y0,y1,y2,y3,y4,y5⟩:=Qh (Q6 hX)
   have hlt:=Qb (Q6 hX)
   by_cases cj:j < q.length
   ·obtain ⟨b,o,rfl,hb,x0,x1,x2⟩:=Q6T (Q6 R1 _ ((Q6 hB).mono hN)) j cj
    have hsz:=Q6 Z1 j cj
    have HQ:Hid (Q2J q[j]↔Q09 q[j].name=true∧(0≤q[j].ty∧q[j].ty≤65535)∧(0≤q[j].cl∧q[j].cl≤65535)):=Iff.rfl
    have HNo:Hid (¬ Q2J q[j]→¬ ok):=fun h1 h2=>h1 (((Q6 HOk).1 h2).2.2.1.2 j cj)
    have HYes:Hid (Q2J q[j]→∀ k (h:k < q.length),k < j+1→Q2J q[k]):=fun h1 k hk hkj=>by
     by_cases e:k=j
     ·subst e; exact h1
     ·exact Q6 hq k hk (by omega)
    have key:=fun w=>Q5e q[j].name w hsz
    have Key:=Qa key
    clear key
    generalize Q2J q[j]=Q at *
    generalize q[j].name=nm at *
    generalize q[j].ty=ty at *
    generalize q[j].cl=kl at *
    generalize Q09 nm=bn at *
    have hB2:=(Q6 hB).trans (((Below.refl wr.heap.size wr).alloc (Nat.le_refl _) (.cells #[.string nm,.int .i64 ty,.int .i64 kl] 91)).mono (Q6 hB).size)
    have HB2:=Qa hB2
    have HX2:=Qa ((Below.heap_alloc wr (.cells #[.string nm,.int .i64 ty,.int .i64 kl] 91) w.heap.size hlt).trans (Q6 hX))
    clear hB2
    go_wp2_with fail
    refine (Q6 Key _).mono ?_
    rintro e w2 ⟨rfl,hw2⟩
    rw [hw2]
    clear hw2 w2
    go_wp2_with fail
    refine (Q2P ty 65535 _).mono ?_
    rintro e w2 ⟨⟨v3,rfl,hv⟩,hw2⟩
    have V3:=Qa hv
    rw [hw2]
    clear hv hw2 w2
    go_wp2_with fail
    refine (Q2P kl 65535 _).mono ?_
    rintro e w2 ⟨⟨v4,rfl,hv⟩,hw2⟩
    have V4:=Qa hv
    rw [hw2]
    clear hv hw2 w2 x0 x1 x2 Key
    cases bn with
    | false =>
     go_wp2_with fail
     go_ret
     exact ⟨⟨_,rfl,⟨fun h=>by simp at h,fun h=>absurd h (Q6 HNo fun h2=>absurd ((Q6 HQ).1 h2).1 (by simp))⟩⟩,Q6 HB2⟩
    | true =>
     cases v3 with
     | false =>
      go_wp2_with fail
      go_ret
      exact ⟨⟨_,rfl,⟨fun h=>by simp at h,fun h=>absurd h (Q6 HNo fun h2=>absurd ((Q6 V3).2 ((Q6 HQ).1 h2).2.1) (by simp))⟩⟩,Q6 HB2⟩
     | true =>
      cases v4 with
      | false =>
       go_wp2_with fail
       go_ret
       exact ⟨⟨_,rfl,⟨fun h=>by simp at h,fun h=>absurd h (Q6 HNo fun h2=>absurd ((Q6 V4).2 ((Q6 HQ).1 h2).2.2) (by simp))⟩⟩,Q6 HB2⟩
      | true =>
       have hyes:=Q6 HYes ((Q6 HQ).2 ⟨by simp,(Q6 V3).1 (by simp),(Q6 V4).1 (by simp)⟩)
       have HY:=Qa hyes
       clear hyes
       go_wp2_with fail
       go_roundw
       case rel=>exact ⟨j+1,by omega,by go_num,HX2,HB2,HY⟩
       case measure=>simp [intOf]; omega
   ·have hqs:q.length≤65535∧∀ i (h:i < q.length),Q2J q[i]:=⟨by omega,fun k hk=>Q6 hq k hk (by omega)⟩
    have HQs:=Qa hqs
    clear hqs
    have hsB:=(Q6 hB).size
    go_wp2_with fail
    refine (Q6 K2 _ ((Q6 hB).mono hN) (by omega)).mono ?_
    rintro e w3 ⟨⟨v5,rfl,hv⟩,hb3⟩
    have V5:=Qa hv
    have hB3:=(Q6 hB).trans (hb3.mono (Q6 hB).size)
    have HX3:=Qa ((hb3.block w.heap.size hlt).trans (Q6 hX))
    clear hv b0 b1 b2 b3 b4 b5 y0 y1 y2 y3 y4 y5
    obtain ⟨⟨b0,b1,b2,b3,b4,b5⟩,y0,y1,y2,y3,y4,y5⟩:=Qh (Q6 HX3)
    have hs3:=hB3.size
    have hl3:=Qb (Q6 HX3)
    go_wp2_with fail
    refine (Q6 K3 _ (hB3.mono hN) (by omega)).mono ?_
    rintro e w4 ⟨⟨v6,rfl,hv⟩,hb4⟩
    have V6:=Qa hv
    have hB4:=hB3.trans (hb4.mono hB3.size)
    have HX4:=Qa ((hb4.block w.heap.size hl3).trans (Q6 HX3))
    clear hv b0 b1 b2 b3 b4 b5 y0 y1 y2 y3 y4 y5
    obtain ⟨⟨b0,b1,b2,b3,b4,b5⟩,y0,y1,y2,y3,y4,y5⟩:=Qh (Q6 HX4)
    have hs4:=hB4.size
    go_wp2_with fail
    refine (Q6 K4 _ (hB4.mono hN) (by omega)).mono ?_
    rintro e w5 ⟨⟨v7,rfl,hv⟩,hb5⟩
    have V7:=Qa hv
    have hB5:=hB4.trans (hb5.mono hB4.size)
    clear hv b0 b1 b2 b3 b4 b5 y0 y1 y2 y3 y4 y5
    cases v5 with
    | false =>
     go_wp2_with fail
     go_ret
     exact ⟨⟨_,rfl,⟨fun h=>by simp at h,fun h=>absurd ((Q6 V5).2 ((Q6 HOk).1 h).2.2.2.1) (by simp)⟩⟩,hB5⟩
    | true =>
     cases v6 with
     | false =>
      go_wp2_with fail
      go_ret
      exact ⟨⟨_,rfl,⟨fun h=>by simp at h,fun h=>absurd ((Q6 V6).2 ((Q6 HOk).1 h).2.2.2.2.1) (by simp)⟩⟩,hB5⟩
     | true =>
      go_wp2_with fail
      go_ret
      refine ⟨⟨_,rfl,?_⟩,hB5⟩
      rw [Q6 V7,Q6 HOk]
      exact ⟨fun h=>⟨(Q6 V1).1 (by simp),(Q6 V2).1 (by simp),Q6 HQs,(Q6 V5).1 (by simp),(Q6 V6).1 (by simp),h⟩,fun h=>h.2.2.2.2.2⟩
end Go.Proofs.YtdhobdmhnocbgabGreatDoor
