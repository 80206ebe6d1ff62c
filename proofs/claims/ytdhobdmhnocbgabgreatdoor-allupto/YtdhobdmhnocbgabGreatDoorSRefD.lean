import Derived.Test.YtdhobdmhnocbgabGreatDoorSItoa
import Derived.Test.YtdhobdmhnocbgabGreatDoorSRefP
import Derived.Test.YtdhobdmhnocbgabGreatDoorSParseX
namespace Go.Proofs.YtdhobdmhnocbgabGreatDoor
open Go.RowKit Zr
theorem Q8W (b:ByteArray) (k:Int) (w:World) (hb:b.size≤281474976710656) (hk:0≤k) (hk1:k≤281474976710656) :
  Calls Tryz.prog 79 #[.string b,.int .i64 k] w fun e w'=>Q7o (Q05 b k.toNat) e∧w'=w:=by
 have key:=fun w=>Qj4 b hb (Q3c b k.toNat k.toNat+1) k k 0 w hk (by omega) hk (by omega) (by omega) (by omega) (by omega)
 have hN:Q3l b k.toNat k.toNat (0:Int).toNat=Q05 b k.toNat:=rfl
 rw [hN] at key
 have Key:=Qa key
 clear key hN
 generalize Q05 b k.toNat=x at Key ⊢
 go_enter Tryz.func79,Tryz.ntmps79
 go_wp2_with fail
 refine (Q6 Key _).mono ?_
 rintro e w' ⟨hp,rfl⟩
 cases x with
 | ok z =>
  obtain ⟨s,t⟩:=z
  have hp':e=_:=hp
  subst hp'
  clear hp
  go_wp2_with fail
  go_ret3
  exact ⟨rfl,rfl⟩
 | error x =>
  obtain ⟨hx,s,t,rfl⟩:=hp
  have Hx:=Qa hx
  clear hx
  go_wp2_with fail
  go_ret3
  exact ⟨⟨Q6 Hx,_,_,rfl⟩,rfl⟩
theorem Q1X (b:ByteArray) (k:Int) (w:World) (s:ByteArray) (t:Nat) (hb:b.size≤281474976710656) (hk:0≤k) (hk1:k≤281474976710656) (h:Hid (Q05 b k.toNat=.ok (s,t))) :
  Calls Tryz.prog 79 #[.string b,.int .i64 k] w fun e w'=>e=.returned (.tuple #[.string s,.int .i64 t,.int .i64 0])∧w'=w:=by
 refine (Q8W b k w hb hk hk1).mono ?_
 rw [Q6 h]
 exact fun e w' h=>h
theorem Q4K (b:ByteArray) (k:Int) (w:World) (x:Int) (hb:b.size≤281474976710656) (hk:0≤k) (hk1:k≤281474976710656) (h:Hid (Q05 b k.toNat=.error x)) :
  Calls Tryz.prog 79 #[.string b,.int .i64 k] w fun e w'=>(x≠0∧∃ (s:ByteArray) (t:Int),e=.returned (.tuple #[.string s,.int .i64 t,.int .i64 x]))∧w'=w:=by
 refine (Q8W b k w hb hk hk1).mono ?_
 rw [Q6 h]
 exact fun e w' h=>h
set_option maxHeartbeats 400000 in
theorem Q5e (s:ByteArray) (w:World) (hb:s.size≤281474976710656) :
  Calls Tryz.prog 85 #[.string s] w fun e w'=>e=.returned (.bool (Q09 s))∧w'=w:=by
 cases hx:Q05 s 0 with
 | error x =>
  have HW:Hid (Q09 s=false):=by show _=_; unfold Q09; rw [hx]
  have Hx:=Qa hx
  clear hx
  go_enter Tryz.func85,Tryz.ntmps85
  go_wp2_with fail
  refine (Q4K s 0 _ x hb (by omega) (by omega) Hx).mono ?_
  rintro e w' ⟨⟨hx0,s',t',rfl⟩,rfl⟩
  have hx1:(x == 0)=false:=beq_eq_false_iff_ne.2 hx0
  clear hx0
  go_wp2_with fail
  go_ret
  exact ⟨Q0B (by rw [Q6 HW]),rfl⟩
 | ok z =>
  obtain ⟨t,k⟩:=z
  have HW:Hid (Q09 s=(k == s.size && decide (t=s))):=by show _=_; unfold Q09; rw [hx]
  have Hx:=Qa hx
  clear hx
  go_enter Tryz.func85,Tryz.ntmps85
  go_wp2_with fail
  refine (Q1X s 0 _ t k hb (by omega) (by omega) Hx).mono ?_
  rintro e w' ⟨rfl,rfl⟩
  by_cases c:k=s.size
  ·have hc:((k:Int) == (s.size:Int))=true:=by rw [beq_iff_eq]; omega
   have HC:=Qa c
   clear c
   go_wp2_with fail
   go_ret
   exact ⟨Q0B (by rw [Q6 HW,Q1C,Q6 HC]; simp),rfl⟩
  ·have hc:((k:Int) == (s.size:Int))=false:=beq_eq_false_iff_ne.2 (by omega)
   have HC:=Qa c
   clear c
   go_wp2_with fail
   go_ret
   exact ⟨Q0B (by rw [Q6 HW]; simp [Q6 HC]),rfl⟩
set_option maxHeartbeats 1000000 in
theorem Qfg:∀ (f:Nat) (s:ByteArray) (w:World),s.size≤65535→s.size < f →
  Calls Tryz.prog 151 #[.string s] w fun e w'=>e=.returned (.bool (s.size != 0 && Q2Q s 0 1))∧w'=w:=by
 intro f
 induction f with
 | zero=>intro s w _ h; omega
 | succ f ih =>
  intro s w hb hf
  have IH:=Qa ih
  clear ih
  by_cases hz:s.size=0
  ·have hz':s.toList.isEmpty=true:=by rw [Q1c]; simp [hz]
   have HV:Hid ((s.size != 0 && Q2Q s 0 1)=false):=by show _=_; simp [hz]
   generalize (s.size != 0 && Q2Q s 0 1)=v at *
   clear hz
   go_enter Tryz.func151,Tryz.ntmps151
   go_wp2_with fail
   go_ret
   exact ⟨Q0B (Q6 HV).symm,rfl⟩
  ·have hz':s.toList.isEmpty=false:=by rw [Q1c]; simp [hz]
   have hg:=Q10 s 0 (by omega)
   have hl:=Q20 s 0
   have hst:=QbE s 0 1 (by omega) hz
   have hn1:num s 0 1=bt s 0:=by simp [num]
   rw [hn1] at hst
   simp only [Nat.zero_add] at hst
   rw [if_neg (by omega)] at hst
   have hV0:(s.size != 0 && Q2Q s 0 1)=Q2Q s 0 1:=by simp [hz]
   rw [hV0]
   by_cases c1:s.size < 1+bt s 0
   ·rw [if_pos c1] at hst
    have HV:=Qa hst
    clear hst hV0 hn1 IH
    generalize Q2Q s 0 1=v at *
    go_enter Tryz.func151,Tryz.ntmps151
    go_wp2_with fail
    go_ret
    exact ⟨Q0B (Q6 HV).symm,rfl⟩
   ·rw [if_neg c1] at hst
    have hx:=Q0L s (1+bt s 0) (by omega)
    by_cases c2:1+bt s 0=s.size
    ·have hc2:((1:Int)+(bt s 0:Int) == (s.size:Int))=true:=by rw [beq_iff_eq]; omega
     rw [QdC (s.extract (1+bt s 0) s.size) 0 1 (by rw [hx]; omega)] at hst
     have HV:=Qa hst
     clear hst hV0 hn1 IH hx c2
     generalize Q2Q s 0 1=v at *
     go_enter Tryz.func151,Tryz.ntmps151
     go_wp2_with fail
     go_ret
     exact ⟨Q0B (Q6 HV).symm,rfl⟩
    ·have hc2:((1:Int)+(bt s 0:Int) == (s.size:Int))=false:=beq_eq_false_iff_ne.2 (by omega)
     have ht:((1:Int)+(bt s 0:Int)).toNat=1+bt s 0:=by omega
     have key:=fun w=>Q6 IH (s.extract (1+bt s 0) s.size) w (by omega) (by omega)
     have hV1:((s.extract (1+bt s 0) s.size).size != 0 && Q2Q (s.extract (1+bt s 0) s.size) 0 1)=Q2Q (s.extract (1+bt s 0) s.size) 0 1:=by
      rw [hx]
      have:(s.size - (1+bt s 0) != 0)=true:=by rw [bne_iff_ne]; omega
      rw [this]; rfl
     rw [hV1,←hst] at key
     have Key:=Qa key
     clear key hV1 hst hV0 hn1 IH hx c2
     generalize Q2Q s 0 1=v at *
     go_enter Tryz.func151,Tryz.ntmps151
     go_wp2_with fail
     refine (Q6 Key _).mono ?_
     rintro e w' ⟨rfl,rfl⟩
     go_wp2_with fail
     go_ret
     exact ⟨rfl,rfl⟩
set_option maxHeartbeats 1000000 in
theorem Qc9:∀ (f:Nat) (s:ByteArray) (w:World),s.size≤65535→s.size < f →
  Calls Tryz.prog 152 #[.string s] w fun e w'=>e=.returned (.bool (Q2Q s 2 2))∧w'=w:=by
 intro f
 induction f with
 | zero=>intro s w _ h; omega
 | succ f ih =>
  intro s w hb hf
  have IH:=Qa ih
  clear ih
  by_cases hz:s.size=0
  ·have hz':s.toList.isEmpty=true:=by rw [Q1c]; simp [hz]
   have HV:=Qa (QdC s 2 2 hz)
   generalize Q2Q s 2 2=v at *
   clear hz
   go_enter Tryz.func152,Tryz.ntmps152
   go_wp2_with fail
   go_ret
   exact ⟨Q0B (Q6 HV).symm,rfl⟩
  ·have hz':s.toList.isEmpty=false:=by rw [Q1c]; simp [hz]
   have hst:=QbE s 2 2 (by omega) hz
   have hl:=Q0n s 2
   by_cases c1:s.size < 2+2
   ·rw [if_pos c1] at hst
    have HV:=Qa hst
    clear hst IH
    generalize Q2Q s 2 2=v at *
    go_enter Tryz.func152,Tryz.ntmps152
    go_wp2_with fail
    refine (Q3y s 2 2 _ hb (by omega) (by omega) (by omega) (by omega) (by omega)).mono ?_
    rintro e w' ⟨rfl,rfl⟩
    go_wp2_with fail
    go_ret
    exact ⟨Q0B (Q6 HV).symm,rfl⟩
   ·rw [if_neg c1] at hst
    by_cases c2:s.size < 2+2+num s 2 2
    ·rw [if_pos c2] at hst
     have HV:=Qa hst
     clear hst IH
     generalize Q2Q s 2 2=v at *
     go_enter Tryz.func152,Tryz.ntmps152
     go_wp2_with fail
     refine (Q0z s 2 2 _ hb (by omega) (by omega) (by omega) (by omega)).mono ?_
     rw [show (2:Int).toNat=2 from rfl]
     rintro e w' ⟨rfl,rfl⟩
     go_wp2_with fail
     go_ret
     exact ⟨Q0B (Q6 HV).symm,rfl⟩
    ·rw [if_neg c2] at hst
     have hx:=Q0L s (2+2+num s 2 2) (by omega)
     have ht:((4:Int)+(num s 2 2:Int)).toNat=2+2+num s 2 2:=by omega
     have key:=fun w=>Q6 IH (s.extract (2+2+num s 2 2) s.size) w (by omega) (by omega)
     rw [←hst] at key
     have Key:=Qa key
     clear key hst IH hx
     generalize Q2Q s 2 2=v at *
     go_enter Tryz.func152,Tryz.ntmps152
     go_wp2_with fail
     refine (Q0z s 2 2 _ hb (by omega) (by omega) (by omega) (by omega)).mono ?_
     rw [show (2:Int).toNat=2 from rfl]
     rintro e w' ⟨rfl,rfl⟩
     go_wp2_with fail
     refine (Q6 Key _).mono ?_
     rintro e w' ⟨rfl,rfl⟩
     go_wp2_with fail
     go_ret
     exact ⟨rfl,rfl⟩
set_option maxHeartbeats 400000 in
theorem Q8o (t:Int) (w:World) :
  Calls Tryz.prog 116 #[.int .i64 t] w fun e w'=>e=.returned (.tuple #[.int .i64 (if t=2∨t=5∨t=12 then 1 else if t=6 then 2 else 0),.int .i64 (if t=2∨t=5∨t=12 then 0 else if t=6 then 20 else 0)])∧w'=w:=by
 by_cases d1:t=2∨t=5∨t=12
 ·rw [if_pos d1,if_pos d1]
  rcases d1 with rfl | rfl | rfl
  all_goals
   go_enter Tryz.func116,Tryz.ntmps116
   go_wp2_with fail
   go_ret2
   exact ⟨rfl,rfl⟩
 ·rw [if_neg d1,if_neg d1]
  have n1:(t == 2)=false:=beq_eq_false_iff_ne.2 (by omega)
  have n2:(t == 5)=false:=beq_eq_false_iff_ne.2 (by omega)
  have n3:(t == 12)=false:=beq_eq_false_iff_ne.2 (by omega)
  by_cases d2:t=6
  ·subst d2
   rw [if_pos rfl,if_pos rfl]
   clear d1 n1 n2 n3
   go_enter Tryz.func116,Tryz.ntmps116
   go_wp2_with fail
   go_ret2
   exact ⟨rfl,rfl⟩
  ·rw [if_neg d2,if_neg d2]
   have n4:(t == 6)=false:=beq_eq_false_iff_ne.2 d2
   clear d1 d2
   go_enter Tryz.func116,Tryz.ntmps116
   go_wp2_with fail
   go_ret2
   exact ⟨rfl,rfl⟩
set_option maxHeartbeats 1000000 in
theorem QcQ (t:Nat) (s:ByteArray) (w:World) (hb:s.size≤65535) :
  Calls Tryz.prog 117 #[.int .i64 t,.string s] w fun e w'=>e=.returned (.bool (Q2q t s))∧w'=w:=by
 by_cases d1:t=1
 ·subst d1
  have HV:Hid (Q2q 1 s=(s.size == 4)):=by show _=_; rfl
  go_enter Tryz.func117,Tryz.ntmps117
  go_wp2_with fail
  go_ret
  exact ⟨Q0B (by rw [Q6 HV,Bool.eq_iff_iff]; simp; omega),rfl⟩
 have n1:((t:Int) == 1)=false:=beq_eq_false_iff_ne.2 (by omega)
 by_cases d2:t=28
 ·subst d2
  have HV:Hid (Q2q 28 s=(s.size == 16)):=by show _=_; rfl
  go_enter Tryz.func117,Tryz.ntmps117
  go_wp2_with fail
  go_ret
  exact ⟨Q0B (by rw [Q6 HV,Bool.eq_iff_iff]; simp; omega),rfl⟩
 have n2:((t:Int) == 28)=false:=beq_eq_false_iff_ne.2 (by omega)
 by_cases d4:t=16
 ·subst d4
  have HV:Hid (Q2q 16 s=(s.size != 0 && Q2Q s 0 1)):=by show _=_; rfl
  go_enter Tryz.func117,Tryz.ntmps117
  go_wp2_with fail
  refine (Qfg (s.size+1) s _ hb (by omega)).mono ?_
  rw [←Q6 HV]
  rintro e w' ⟨rfl,rfl⟩
  go_wp2_with fail
  go_ret
  exact ⟨rfl,rfl⟩
 have n4:((t:Int) == 16)=false:=beq_eq_false_iff_ne.2 (by omega)
 by_cases d5:t=41
 ·subst d5
  have HV:Hid (Q2q 41 s=Q2Q s 2 2):=by show _=_; rfl
  go_enter Tryz.func117,Tryz.ntmps117
  go_wp2_with fail
  refine (Qc9 (s.size+1) s _ hb (by omega)).mono ?_
  rw [←Q6 HV]
  rintro e w' ⟨rfl,rfl⟩
  go_wp2_with fail
  go_ret
  exact ⟨rfl,rfl⟩
 have n5:((t:Int) == 41)=false:=beq_eq_false_iff_ne.2 (by omega)
 by_cases d3:t=33
 ·subst d3
  have hV:Q2q 33 s=Qav s:=rfl
  by_cases c6:s.size < 6
  ·have HV:=Qa (hV.trans (Qhl s c6))
   clear hV
   go_enter Tryz.func117,Tryz.ntmps117
   go_wp2_with fail
   go_ret
   exact ⟨Q0B (Q6 HV).symm,rfl⟩
  ·have HV:=Qa (hV.trans (QbK s (by omega)))
   have hx:=Q0L s 6 (by omega)
   have key:=fun w=>Q5e (s.extract 6 s.size) w (by omega)
   rw [←Q6 HV] at key
   have Key:=Qa key
   clear hV key hx
   generalize Q2q 33 s=v at *
   go_enter Tryz.func117,Tryz.ntmps117
   go_wp2_with fail
   refine (Q6 Key _).mono ?_
   rintro e w' ⟨rfl,rfl⟩
   go_wp2_with fail
   go_ret
   exact ⟨rfl,rfl⟩
 have n3:((t:Int) == 33)=false:=beq_eq_false_iff_ne.2 (by omega)
 have HV:Hid (Q2q t s=true):=by show _=_; unfold Q2q; rw [if_neg d1,if_neg d2,if_neg d3,if_neg d4,if_neg d5]
 go_enter Tryz.func117,Tryz.ntmps117
 go_wp2_with fail
 go_ret
 exact ⟨Q0B (by rw [Q6 HV]),rfl⟩
def QhA (res:Option ByteArray) (e:Ending):Prop :=
 match res with
 | some d=>e=.returned (.tuple #[.string d,.bool true])
 | none=>∃ s:ByteArray,e=.returned (.tuple #[.string s,.bool false])
theorem Qk7 (b:ByteArray) (k n t:Nat) (h:¬ (t=2∨t=5∨t=12)) (h6:t≠6):Q1n b k n t=if Q2q t (b.extract k (k+n)) then some (b.extract k (k+n)) else none:=by
 unfold Q1n; rw [if_neg h,if_neg h6]
theorem Qep (b:ByteArray) (k n t m more:Nat) (h:(m=1∧more=0∧(t=2∨t=5∨t=12))∨(m=2∧more=20∧t=6)):Q1n b k n t=wn b k n m more:=by
 unfold Q1n
 rcases h with ⟨rfl,rfl,h⟩ | ⟨rfl,rfl,rfl⟩
 ·rw [if_pos h]
 ·rw [if_neg (by omega),if_pos rfl]
set_option maxRecDepth 100000 in
set_option maxHeartbeats 2000000 in
theorem QdA (b:ByteArray) (k n t:Int) (w:World) (hb:b.size≤65535) (hk:0≤k) (hn:0≤n) (ht:0≤t) (hkn:k+n≤b.size) :
  Calls Tryz.prog 80 #[.string b,.int .i64 k,.int .i64 n,.int .i64 t] w fun e w'=>QhA (Q1n b k.toNat n.toNat t.toNat) e∧w'=w:=by
 obtain ⟨k,rfl⟩:=Int.eq_ofNat_of_zero_le hk
 obtain ⟨n,rfl⟩:=Int.eq_ofNat_of_zero_le hn
 obtain ⟨t,rfl⟩:=Int.eq_ofNat_of_zero_le ht
 simp only [Int.toNat_natCast]
 have hN:=Q8o (t:Int)
 by_cases dd:(t=2∨t=5∨t=12)∨t=6
 ·obtain ⟨m,more,hm,hN',hm2,hmore,hpos⟩:∃ m more:Nat,((m=1∧more=0∧(t=2∨t=5∨t=12))∨(m=2∧more=20∧t=6))∧(∀ w,Calls Tryz.prog 116 #[.int .i64 t] w fun e w'=>e=.returned (.tuple #[.int .i64 m,.int .i64 more])∧w'=w)∧m≤2∧more≤20∧1≤m:=by
   by_cases d1:t=2∨t=5∨t=12
   ·refine ⟨1,0,.inl ⟨rfl,rfl,d1⟩,fun w=>?_,by omega,by omega,by omega⟩
    have h:=hN w
    have x1:(t:Int)=2∨(t:Int)=5∨(t:Int)=12:=by omega
    simp only [if_pos x1] at h
    exact h
   ·refine ⟨2,20,.inr ⟨rfl,rfl,by omega⟩,fun w=>?_,by omega,by omega,by omega⟩
    have h:=hN w
    have x1:¬ ((t:Int)=2∨(t:Int)=5∨(t:Int)=12):=by omega
    have x2:(t:Int)=6:=by omega
    simp only [if_neg x1,if_pos x2] at h
    exact h
  have HD:=Qa (Qep b k n t m more hm)
  have HN:=Qa hN'
  have hm0:((m:Int) == 0)=false:=beq_eq_false_iff_ne.2 (by omega)
  clear hN hN' hm dd
  go_enter Tryz.func80,Tryz.ntmps80
  go_wp2_with fail
  refine (Q6 HN _).mono ?_
  rintro e w' ⟨rfl,rfl⟩
  go_wp2_with fail
  go_loop [10,14,15] (fun kk s i=>∃ (j:Nat) (x:ByteArray) (p:Nat),j≤m∧kk=.int .i64 ((m:Int) - j)∧s=.string x∧i=.int .i64 p∧p≤b.size∧x.size≤510∧x.size≤255 * j∧Hid (Q0b b k j=.ok (x,p))) (fun kk _ _=>(intOf kk).toNat)
  case atStart=>exact ⟨0,⟨#[]⟩,k,Nat.zero_le _,by go_num,rfl,rfl,by omega,by simp [ByteArray.size],by simp [ByteArray.size],rfl⟩
  case round =>
   obtain ⟨j,x,p,hj,rfl,rfl,rfl,hp,hx,hx2,hT⟩:=hrel
   by_cases c:j < m
   ·cases hy:Q05 b p with
    | ok z =>
     obtain ⟨y,t'⟩:=z
     obtain ⟨g1,g2,g3⟩:=Q0F b p y t' hy
     have hnx:Q0b b k (j+1)=.ok (x++y,p+t'):=by rw [Q0b,Q6 hT]; simp only; rw [hy]
     have Hy:=Qa hy
     have HNX:=Qa hnx
     clear hy hnx
     go_wp2_with fail
     refine (Q1X b p _ y t' (big hb) (by omega) (by omega) (by rw [Int.toNat_natCast]; exact Hy)).mono ?_
     rintro e w' ⟨rfl,rfl⟩
     go_wp2_with fail
     go_round
     case rel=>exact ⟨j+1,x++y,p+t',by omega,by go_num,rfl,by go_num,by omega,by rw [ByteArray.size_append]; omega,by rw [ByteArray.size_append]; omega,HNX⟩
     case measure=>simp [intOf]; omega
    | error er =>
     have hnx:Q0b b k (j+1)=.error er:=by rw [Q0b,Q6 hT]; simp only; rw [hy]
     obtain ⟨er',he'⟩:=Q8Q b k (j+1) er hnx m (by omega)
     have HW:=Qa (QjE b k n m more er' he')
     have Hy:=Qa hy
     clear hy hnx he'
     go_wp2_with fail
     refine (Q4K b p _ er (big hb) (by omega) (by omega) (by rw [Int.toNat_natCast]; exact Hy)).mono ?_
     rintro e w' ⟨⟨hx0,s',t',rfl⟩,rfl⟩
     have hx1:(er != 0)=true:=by rw [bne_iff_ne]; exact hx0
     clear hx0
     go_wp2_with fail
     go_ret2
     exact ⟨by rw [Q6 HD,Q6 HW]; exact ⟨_,rfl⟩,rfl⟩
   ·have hjm:j=m:=by omega
    subst hjm
    by_cases ce:p+more=k+n
    ·have HW:=Qa (QjG b k n j more x p (Q6 hT) ce)
     have hne:(((p:Int)+more) != (k:Int)+n)=false:=by simp only [bne_eq_false_iff_eq]; omega
     have hz:(b.extract p (p+more)).size≤65535:=by rw [ByteArray.size_extract]; omega
     have hpm:((p:Int)+more).toNat=p+more:=by omega
     have hle:p+more≤b.size:=by omega
     clear ce
     go_wp2_with fail
     go_ret2
     refine ⟨?_,rfl⟩
     rw [Q6 HD,Q6 HW]
     rfl
    ·have HW:=Qa (QjF b k n j more x p (Q6 hT) ce)
     have hne:(((p:Int)+more) != (k:Int)+n)=true:=by rw [bne_iff_ne]; omega
     clear ce
     go_wp2_with fail
     go_ret2
     exact ⟨by rw [Q6 HD,Q6 HW]; exact ⟨_,rfl⟩,rfl⟩
 ·have hD:=Qk7 b k n t (fun h=>dd (.inl h)) (fun h=>dd (.inr h))
  have hN':=fun w=>hN w
  have x1:¬ ((t:Int)=2∨(t:Int)=5∨(t:Int)=12):=by omega
  have x2:¬ ((t:Int)=6):=by omega
  simp only [if_neg x1,if_neg x2] at hN'
  clear x1 x2
  have HN:=Qa hN'
  have hz:(b.extract k (k+n)).size≤65535:=by rw [ByteArray.size_extract]; omega
  have hpm:((k:Int)+n).toNat=k+n:=by omega
  have key:=fun w=>QcQ t (b.extract k (k+n)) w hz
  have Key:=Qa key
  clear key hN hN' dd
  go_enter Tryz.func80,Tryz.ntmps80
  go_wp2_with fail
  refine (Q6 HN _).mono ?_
  rintro e w' ⟨rfl,rfl⟩
  have HD:=Qa hD
  clear hD
  go_wp2_with fail
  refine (Q6 Key _).mono ?_
  cases hf:Q2q t (b.extract k (k+n)) with
  | true =>
   have HF:=Qa hf
   clear hf
   rintro e w' ⟨rfl,rfl⟩
   go_wp2_with fail
   go_ret2
   refine ⟨?_,rfl⟩
   rw [Q6 HD,Q6 HF]
   rfl
  | false =>
   have HF:=Qa hf
   clear hf
   rintro e w' ⟨rfl,rfl⟩
   go_wp2_with fail
   go_ret2
   refine ⟨?_,rfl⟩
   rw [Q6 HD,Q6 HF]
   exact ⟨_,rfl⟩
def Qn2 (q:Qs):Value:=.agg #[.string q.name,.int .i64 q.ty,.int .i64 q.cl]
def Qn3 (x:Rc):Value:=.agg #[.string x.name,.int .i64 x.ty,.int .i64 x.cl,.int .i64 x.ttl,.string x.data]
def Qld (res:Except Int (Qs × Nat)) (e:Ending):Prop :=
 match res with
 | .ok (q,p)=>e=.returned (.tuple #[.agg #[.string q.name,.int .i64 q.ty,.int .i64 q.cl],.int .i64 p,.int .i64 0])
 | .error x=>x≠0∧e=.returned (.tuple #[.agg #[.string ⟨#[]⟩,.int .i64 0,.int .i64 0],.int .i64 0,.int .i64 x])
set_option maxRecDepth 100000 in
set_option maxHeartbeats 1000000 in
theorem Q5P (b:ByteArray) (p:Int) (w:World) (hb:b.size≤65535) (h0:0≤p) (h1:p≤b.size) :
  Calls Tryz.prog 43 #[.string b,.int .i64 p] w fun e w'=>Qld (Q0j b p.toNat) e∧Below w.heap.size w w':=by
 obtain ⟨p,rfl⟩:=Int.eq_ofNat_of_zero_le h0
 rw [Int.toNat_natCast]
 have hQ:Q0j b p=Q0j b p:=rfl
 conv at hQ=>rhs; unfold Q0j
 cases hx:Q05 b p with
 | error x =>
  rw [hx] at hQ
  simp only at hQ
  have HQ:=Qa hQ
  have Hx:=Qa hx
  clear hQ hx
  go_enter Tryz.func43,Tryz.ntmps43
  go_wp2_with fail
  refine (Q4K b p _ x (big hb) (by omega) (by omega) (by rw [Int.toNat_natCast]; exact Hx)).mono ?_
  rintro e w' ⟨⟨hx0,s',t',rfl⟩,rfl⟩
  have hx1:(x != 0)=true:=by rw [bne_iff_ne]; exact hx0
  have HX:=Qa hx0
  clear hx0
  go_wp2_with fail
  refine bodyPost_ret (v:=.tuple #[.agg #[.string ⟨#[]⟩,.int .i64 0,.int .i64 0],.int .i64 0,.int .i64 x]) (by simp [results,Tryz.results43,go_sem]) rfl ⟨?_,(Below.refl _ _).alloc (Nat.le_refl _) _⟩
  rw [Q6 HQ]
  exact ⟨Q6 HX,rfl⟩
 | ok z =>
  obtain ⟨s,t⟩:=z
  obtain ⟨g1,g2,g3⟩:=Q0F b p s t hx
  rw [hx] at hQ
  simp only at hQ
  have Hx:=Qa hx
  clear hx
  have e1:((p:Int)+t).toNat=p+t:=by omega
  have e2:((p:Int)+t+2).toNat=p+t+2:=by omega
  have l1:=Q0n b (p+t)
  have l2:=Q0n b (p+t+2)
  by_cases c:b.size < p+t+4
  ·rw [if_pos c] at hQ
   have HQ:=Qa hQ
   clear hQ
   by_cases c2:p+t+2≤b.size
   ·go_enter Tryz.func43,Tryz.ntmps43
    go_wp2_with fail
    refine (Q1X b p _ s t (big hb) (by omega) (by omega) (by rw [Int.toNat_natCast]; exact Hx)).mono ?_
    rintro e w' ⟨rfl,rfl⟩
    go_wp2_with fail
    refine (Q0z b (p+t) 2 _ hb (by omega) (by omega) (by omega) (by omega)).mono ?_
    rintro e w' ⟨rfl,rfl⟩
    go_wp2_with fail
    refine (Q3y b (p+t+2) 2 _ hb (by omega) (by omega) (by omega) (by omega) (by omega)).mono ?_
    rintro e w' ⟨rfl,rfl⟩
    go_wp2_with fail
    refine bodyPost_ret (v:=.tuple #[.agg #[.string ⟨#[]⟩,.int .i64 0,.int .i64 0],.int .i64 0,.int .i64 2]) (by simp [results,Tryz.results43,go_sem]) rfl ⟨?_,(Below.refl _ _).alloc (Nat.le_refl _) _⟩
    rw [Q6 HQ]
    exact ⟨by decide,rfl⟩
   ·go_enter Tryz.func43,Tryz.ntmps43
    go_wp2_with fail
    refine (Q1X b p _ s t (big hb) (by omega) (by omega) (by rw [Int.toNat_natCast]; exact Hx)).mono ?_
    rintro e w' ⟨rfl,rfl⟩
    go_wp2_with fail
    refine (Q3y b (p+t) 2 _ hb (by omega) (by omega) (by omega) (by omega) (by omega)).mono ?_
    rintro e w' ⟨rfl,rfl⟩
    go_wp2_with fail
    refine (Q3y b (p+t+2) 2 _ hb (by omega) (by omega) (by omega) (by omega) (by omega)).mono ?_
    rintro e w' ⟨rfl,rfl⟩
    go_wp2_with fail
    refine bodyPost_ret (v:=.tuple #[.agg #[.string ⟨#[]⟩,.int .i64 0,.int .i64 0],.int .i64 0,.int .i64 2]) (by simp [results,Tryz.results43,go_sem]) rfl ⟨?_,(Below.refl _ _).alloc (Nat.le_refl _) _⟩
    rw [Q6 HQ]
    exact ⟨by decide,rfl⟩
  ·rw [if_neg c] at hQ
   have HQ:=Qa hQ
   clear hQ
   go_enter Tryz.func43,Tryz.ntmps43
   go_wp2_with fail
   refine (Q1X b p _ s t (big hb) (by omega) (by omega) (by rw [Int.toNat_natCast]; exact Hx)).mono ?_
   rintro e w' ⟨rfl,rfl⟩
   go_wp2_with fail
   refine (Q0z b (p+t) 2 _ hb (by omega) (by omega) (by omega) (by omega)).mono ?_
   rw [e1,show (2:Int).toNat=2 from rfl]
   rintro e w' ⟨rfl,rfl⟩
   go_wp2_with fail
   refine (Q0z b (p+t+2) 2 _ hb (by omega) (by omega) (by omega) (by omega)).mono ?_
   rw [e2,show (2:Int).toNat=2 from rfl]
   rintro e w' ⟨rfl,rfl⟩
   go_wp2_with fail
   refine bodyPost_ret (v:=.tuple #[.agg #[.string s,.int .i64 (num b (p+t) 2),.int .i64 (num b (p+t+2) 2)],.int .i64 ((p:Int)+t+4),.int .i64 0]) (by simp [results,Tryz.results43,go_sem]) rfl ⟨?_,(Below.refl _ _).alloc (Nat.le_refl _) _⟩
   rw [Q6 HQ]
   rfl
def Qle (res:Except Int (Rc × Nat)) (e:Ending):Prop :=
 match res with
 | .ok (x,p)=>e=.returned (.tuple #[.agg #[.string x.name,.int .i64 x.ty,.int .i64 x.cl,.int .i64 x.ttl,.string x.data],.int .i64 p,.int .i64 0])
 | .error x=>x≠0∧e=.returned (.tuple #[.agg #[.string ⟨#[]⟩,.int .i64 0,.int .i64 0,.int .i64 0,.string ⟨#[]⟩],.int .i64 0,.int .i64 x])
set_option maxRecDepth 100000 in
set_option maxHeartbeats 2000000 in
theorem Q6S (b:ByteArray) (p:Int) (w:World) (hb:b.size≤65535) (h0:0≤p) (h1:p≤b.size) :
  Calls Tryz.prog 44 #[.string b,.int .i64 p] w fun e w'=>Qle (Q0U b p.toNat) e∧Below w.heap.size w w':=by
 obtain ⟨p,rfl⟩:=Int.eq_ofNat_of_zero_le h0
 rw [Int.toNat_natCast]
 have hQ:Q0U b p=Q0U b p:=rfl
 conv at hQ=>rhs; unfold Q0U
 cases hx:Q05 b p with
 | error x =>
  rw [hx] at hQ
  simp only at hQ
  have HQ:=Qa hQ
  have Hx:=Qa hx
  clear hQ hx
  go_enter Tryz.func44,Tryz.ntmps44
  go_wp2_with fail
  refine (Q4K b p _ x (big hb) (by omega) (by omega) (by rw [Int.toNat_natCast]; exact Hx)).mono ?_
  rintro e w' ⟨⟨hx0,s',t',rfl⟩,rfl⟩
  have hx1:(x != 0)=true:=by rw [bne_iff_ne]; exact hx0
  have HX:=Qa hx0
  clear hx0
  go_wp2_with fail
  refine bodyPost_ret (v:=.tuple #[.agg #[.string ⟨#[]⟩,.int .i64 0,.int .i64 0,.int .i64 0,.string ⟨#[]⟩],.int .i64 0,.int .i64 x]) (by simp [results,Tryz.results44,go_sem]) rfl ⟨?_,(Below.refl _ _).alloc (Nat.le_refl _) _⟩
  rw [Q6 HQ]
  exact ⟨Q6 HX,rfl⟩
 | ok z =>
  obtain ⟨s,t⟩:=z
  obtain ⟨g1,g2,g3⟩:=Q0F b p s t hx
  rw [hx] at hQ
  simp only at hQ
  have Hx:=Qa hx
  clear hx
  have e1:((p:Int)+t).toNat=p+t:=by omega
  have e2:((p:Int)+t+2).toNat=p+t+2:=by omega
  have e4:((p:Int)+t+4).toNat=p+t+4:=by omega
  have e8:((p:Int)+t+8).toNat=p+t+8:=by omega
  have e10:((p:Int)+t+10).toNat=p+t+10:=by omega
  have l0:=Q0n b (p+t)
  have l2:=Q0n b (p+t+2)
  have l4:=Q6A b (p+t+4) 4 (by omega)
  have l8:=Q0n b (p+t+8)
  by_cases c:b.size < p+t+10
  ·rw [if_pos c] at hQ
   have HQ:=Qa hQ
   clear hQ
   go_enter Tryz.func44,Tryz.ntmps44
   go_wp2_with fail
   refine (Q1X b p _ s t (big hb) (by omega) (by omega) (by rw [Int.toNat_natCast]; exact Hx)).mono ?_
   rintro e w' ⟨rfl,rfl⟩
   go_wp2_with fail
   refine (Q3y b (p+t+8) 2 _ hb (by omega) (by omega) (by omega) (by omega) (by omega)).mono ?_
   rintro e w' ⟨rfl,rfl⟩
   go_wp2_with fail
   refine bodyPost_ret (v:=.tuple #[.agg #[.string ⟨#[]⟩,.int .i64 0,.int .i64 0,.int .i64 0,.string ⟨#[]⟩],.int .i64 0,.int .i64 2]) (by simp [results,Tryz.results44,go_sem]) rfl ⟨?_,(Below.refl _ _).alloc (Nat.le_refl _) _⟩
   rw [Q6 HQ]
   exact ⟨by decide,rfl⟩
  rw [if_neg c] at hQ
  by_cases c':b.size < p+t+10+num b (p+t+8) 2
  ·rw [if_pos c'] at hQ
   have HQ:=Qa hQ
   clear hQ
   go_enter Tryz.func44,Tryz.ntmps44
   go_wp2_with fail
   refine (Q1X b p _ s t (big hb) (by omega) (by omega) (by rw [Int.toNat_natCast]; exact Hx)).mono ?_
   rintro e w' ⟨rfl,rfl⟩
   go_wp2_with fail
   refine (Q0z b (p+t+8) 2 _ hb (by omega) (by omega) (by omega) (by omega)).mono ?_
   rw [e8,show (2:Int).toNat=2 from rfl]
   rintro e w' ⟨rfl,rfl⟩
   go_wp2_with fail
   refine bodyPost_ret (v:=.tuple #[.agg #[.string ⟨#[]⟩,.int .i64 0,.int .i64 0,.int .i64 0,.string ⟨#[]⟩],.int .i64 0,.int .i64 2]) (by simp [results,Tryz.results44,go_sem]) rfl ⟨?_,(Below.refl _ _).alloc (Nat.le_refl _) _⟩
   rw [Q6 HQ]
   exact ⟨by decide,rfl⟩
  rw [if_neg c'] at hQ
  have key:=fun w=>QdA b ((p:Int)+t+10) (num b (p+t+8) 2) (num b (p+t) 2) w hb (by omega) (by omega) (by omega) (by omega)
  simp only [e10,Int.toNat_natCast] at key
  have Key:=Qa key
  clear key
  cases hd:Q1n b (p+t+10) (num b (p+t+8) 2) (num b (p+t) 2) with
  | none =>
   rw [hd] at hQ Key
   simp only at hQ
   have HQ:=Qa hQ
   clear hQ hd
   go_enter Tryz.func44,Tryz.ntmps44
   go_wp2_with fail
   refine (Q1X b p _ s t (big hb) (by omega) (by omega) (by rw [Int.toNat_natCast]; exact Hx)).mono ?_
   rintro e w' ⟨rfl,rfl⟩
   go_wp2_with fail
   refine (Q0z b (p+t+8) 2 _ hb (by omega) (by omega) (by omega) (by omega)).mono ?_
   rw [e8,show (2:Int).toNat=2 from rfl]
   rintro e w' ⟨rfl,rfl⟩
   go_wp2_with fail
   refine (Q0z b (p+t) 2 _ hb (by omega) (by omega) (by omega) (by omega)).mono ?_
   rw [e1,show (2:Int).toNat=2 from rfl]
   rintro e w' ⟨rfl,rfl⟩
   go_wp2_with fail
   refine (Q0z b (p+t+2) 2 _ hb (by omega) (by omega) (by omega) (by omega)).mono ?_
   rw [e2,show (2:Int).toNat=2 from rfl]
   rintro e w' ⟨rfl,rfl⟩
   go_wp2_with fail
   refine (Q0z b (p+t+4) 4 _ hb (by omega) (by omega) (by omega) (by omega)).mono ?_
   rw [e4,show (4:Int).toNat=4 from rfl]
   rintro e w' ⟨rfl,rfl⟩
   go_wp2_with fail
   refine (Q6 Key _).mono ?_
   rintro e w' ⟨⟨s',rfl⟩,rfl⟩
   go_wp2_with fail
   refine bodyPost_ret (v:=.tuple #[.agg #[.string ⟨#[]⟩,.int .i64 0,.int .i64 0,.int .i64 0,.string ⟨#[]⟩],.int .i64 0,.int .i64 4]) (by simp [results,Tryz.results44,go_sem]) rfl ⟨?_,(Below.refl _ _).alloc (Nat.le_refl _) _⟩
   rw [Q6 HQ]
   exact ⟨by decide,rfl⟩
  | some d =>
   rw [hd] at hQ Key
   simp only at hQ
   have HQ:=Qa hQ
   clear hQ hd
   go_enter Tryz.func44,Tryz.ntmps44
   go_wp2_with fail
   refine (Q1X b p _ s t (big hb) (by omega) (by omega) (by rw [Int.toNat_natCast]; exact Hx)).mono ?_
   rintro e w' ⟨rfl,rfl⟩
   go_wp2_with fail
   refine (Q0z b (p+t+8) 2 _ hb (by omega) (by omega) (by omega) (by omega)).mono ?_
   rw [e8,show (2:Int).toNat=2 from rfl]
   rintro e w' ⟨rfl,rfl⟩
   go_wp2_with fail
   refine (Q0z b (p+t) 2 _ hb (by omega) (by omega) (by omega) (by omega)).mono ?_
   rw [e1,show (2:Int).toNat=2 from rfl]
   rintro e w' ⟨rfl,rfl⟩
   go_wp2_with fail
   refine (Q0z b (p+t+2) 2 _ hb (by omega) (by omega) (by omega) (by omega)).mono ?_
   rw [e2,show (2:Int).toNat=2 from rfl]
   rintro e w' ⟨rfl,rfl⟩
   go_wp2_with fail
   refine (Q0z b (p+t+4) 4 _ hb (by omega) (by omega) (by omega) (by omega)).mono ?_
   rw [e4,show (4:Int).toNat=4 from rfl]
   rintro e w' ⟨rfl,rfl⟩
   go_wp2_with fail
   refine (Q6 Key _).mono ?_
   rintro e w' ⟨hp,rfl⟩
   have hp':e=_:=hp
   subst hp'
   clear hp
   go_wp2_with fail
   refine bodyPost_ret (v:=.tuple #[.agg #[.string s,.int .i64 (num b (p+t) 2),.int .i64 (num b (p+t+2) 2),.int .i64 (num b (p+t+4) 4),.string d],.int .i64 ((p:Int)+t+10+num b (p+t+8) 2),.int .i64 0]) (by simp [results,Tryz.results44,go_sem]) rfl ⟨?_,(Below.refl _ _).alloc (Nat.le_refl _) _⟩
   rw [Q6 HQ]
   rfl
theorem Q44 (x:Rc) (l:List Rc) (k:Nat):(Q0e (x :: l))[k+5]? = (Q0e l)[k]?:=by simp [Q0e]
theorem Q6a (x:Qs) (l:List Qs) (k:Nat):(Q1M (x :: l))[k+3]? = (Q1M l)[k]?:=by simp [Q1M]
theorem QbB (l:List Rc):∀ (i:Nat) (h:i < l.length),(Q0e l)[i * 5]? = some (.string l[i].name)∧(Q0e l)[i * 5+1]? = some (.int .i64 l[i].ty)∧(Q0e l)[i * 5+2]? = some (.int .i64 l[i].cl)∧(Q0e l)[i * 5+3]? = some (.int .i64 l[i].ttl)∧(Q0e l)[i * 5+4]? = some (.string l[i].data):=by
 induction l with
 | nil=>intro i h; simp at h
 | cons x l ih =>
  intro i h
  cases i with
  | zero=>simp [Q0e]
  | succ i =>
   have hi:=ih i (by simpa using h)
   have e0:(i+1) * 5=i * 5+5:=by omega
   have e1:(i+1) * 5+1=i * 5+1+5:=by omega
   have e2:(i+1) * 5+2=i * 5+2+5:=by omega
   have e3:(i+1) * 5+3=i * 5+3+5:=by omega
   have e4:(i+1) * 5+4=i * 5+4+5:=by omega
   rw [e1,e2,e3,e4,e0,Q44,Q44,Q44,Q44,Q44]
   exact hi
theorem Qh6 (l:List Qs):∀ (i:Nat) (h:i < l.length),(Q1M l)[i * 3]? = some (.string l[i].name)∧(Q1M l)[i * 3+1]? = some (.int .i64 l[i].ty)∧(Q1M l)[i * 3+2]? = some (.int .i64 l[i].cl):=by
 induction l with
 | nil=>intro i h; simp at h
 | cons x l ih =>
  intro i h
  cases i with
  | zero=>simp [Q1M]
  | succ i =>
   have hi:=ih i (by simpa using h)
   have e0:(i+1) * 3=i * 3+3:=by omega
   have e1:(i+1) * 3+1=i * 3+1+3:=by omega
   have e2:(i+1) * 3+2=i * 3+2+3:=by omega
   rw [e1,e2,e0,Q6a,Q6a,Q6a]
   exact hi
theorem Q0v {w:World} {N:Nat} {e:TypeId} {size:Nat} {n:Nat} {xs:List Value} {g:Nat} {c:Nat} (h:w.ownsRow N e size (.slice (some ⟨g,0,none⟩) n c) n xs) (j:Nat) (u:Value) (hu:xs[j]? = some u):w.cell? ⟨g,j,none⟩=some u:=by
 have:=h.cells (g:=g) rfl j u hu
 have hadd:(⟨g,0,none⟩:Addr).add j=⟨g,j,none⟩:=by unfold Addr.add; split <;> simp_all
 rwa [hadd] at this
theorem Q23 {w:World} {N:Nat} {e:TypeId} {size:Nat} {a:Option Addr} {n c:Nat} {xs:List Value} (h:w.ownsRow N e size (.slice a n c) n xs) (hn:0 < n):∃ g,a=some ⟨g,0,none⟩∧N≤g∧g < w.heap.size∧n≤c:=by
 rcases h.2 with ⟨h1,h2⟩ | ⟨g,cap,cur,h1,h2,h3,h4,_⟩
 ·omega
 ·cases h1
  exact ⟨g,rfl,h2,Qb h3,h4⟩
set_option maxHeartbeats 1000000 in
theorem QaT (l:List Rc) (x:Rc) (part:Nat) (a:Option Addr) (c N:Nat) (w:World) (hown:w.ownsRow N 61 5 (.slice a l.length c) l.length (Q0e l)) (hl:l.length≤65535) :
  Calls Tryz.prog 45 #[.slice a l.length c,.agg #[.string x.name,.int .i64 x.ty,.int .i64 x.cl,.int .i64 x.ttl,.string x.data],.int .i64 part] w fun e w'=>e=.returned (.bool (Q65 l x part))∧Below w.heap.size w w':=by
 by_cases d:x.ty=41
 ·have d':((x.ty:Int) != 41)=false:=by simp only [bne_eq_false_iff_eq]; omega
  have hM:Q65 l x part=(l.any (fun y=>y.ty == 41) || part != 2 || decide (x.name≠⟨#[0]⟩)):=by unfold Q65; rw [d]; rfl
  have HM:=Qa hM
  have HO:=Qa hown
  clear d hM hown
  go_enter Tryz.func45,Tryz.ntmps45
  go_wp2_with fail
  go_loop [7] (fun i=>∃ j:Nat,j≤l.length∧i=.int .i64 j∧Hid (∀ k (h:k < l.length),k < j→l[k].ty≠41)) (fun i=>l.length - (intOf i).toNat)
  case atStart=>exact ⟨0,Nat.zero_le _,rfl,fun k _ h=>by omega⟩
  case round =>
   obtain ⟨j,hj,rfl,hno⟩:=hrel
   by_cases c1:j < l.length
   ·obtain ⟨g,rfl,hNg,hg,hc⟩:=Q23 (Q6 HO) (by omega)
    have hcell:=Q0v (Q6 HO) _ _ (QbB l j c1).2.1
    generalize hty:l[j].ty=ty at hcell
    by_cases c2:ty=41
    ·have c2':((ty:Int) == 41)=true:=by rw [beq_iff_eq]; omega
     have hany:(l.any fun y=>y.ty == 41)=true:=List.any_eq_true.2 ⟨l[j],List.getElem_mem c1,by rw [hty,c2]; rfl⟩
     have HA:=Qa hany
     clear hany c2 hty
     go_wp2_with fail
     go_ret
     exact ⟨Q0B (by rw [Q6 HM,Q6 HA]; rfl),(Below.refl _ _).alloc (Nat.le_refl _) _⟩
    ·have c2':((ty:Int) == 41)=false:=beq_eq_false_iff_ne.2 (by omega)
     have HT:=Qa hty
     have HC:=Qa c2
     clear hty c2
     go_wp2_with fail
     go_round
     case rel=>exact ⟨j+1,by omega,by go_num,fun k hk hlt=>by
      by_cases hkj:k=j
      ·subst hkj; rw [Q6 HT]; exact Q6 HC
      ·exact Q6 hno k hk (by omega)⟩
     case measure=>simp [intOf]; omega
   ·have hany:(l.any fun y=>y.ty == 41)=false:=by
     rw [Bool.eq_false_iff]
     intro h
     obtain ⟨y,hy,hy2⟩:=List.any_eq_true.1 h
     obtain ⟨k,hk,rfl⟩:=List.getElem_of_mem hy
     exact Q6 hno k hk (by omega) (by simpa using hy2)
    have HA:=Qa hany
    clear hany
    have hbe:=Q1C x.name ⟨#[0]⟩
    have h0:(⟨#[0]⟩:ByteArray).toList=[0]:=by rw [ByteArray.toList_eq]
    rw [h0] at hbe
    have HB:=Qa hbe
    clear hbe h0
    by_cases c3:part=2
    ·subst c3
     go_wp2_with fail
     go_ret
     refine ⟨Q0B ?_,(Below.refl _ _).alloc (Nat.le_refl _) _⟩
     rw [Q6 HM,Q6 HA,Q6 HB]
     simp
    ·have c3':((part:Int) != 2)=true:=by rw [bne_iff_ne]; omega
     have HC:=Qa c3
     clear c3
     go_wp2_with fail
     go_ret
     refine ⟨Q0B ?_,(Below.refl _ _).alloc (Nat.le_refl _) _⟩
     rw [Q6 HM,Q6 HA]
     simp [Q6 HC]
 ·have d':((x.ty:Int) != 41)=true:=by rw [bne_iff_ne]; omega
  have hM:Q65 l x part=false:=by unfold Q65; simp [d]
  have HM:=Qa hM
  clear d hM hown
  go_enter Tryz.func45,Tryz.ntmps45
  go_wp2_with fail
  go_ret
  exact ⟨Q0B (Q6 HM).symm,(Below.refl _ _).alloc (Nat.le_refl _) _⟩
end Go.Proofs.YtdhobdmhnocbgabGreatDoor
