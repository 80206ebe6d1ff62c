import Derived.Test.YtdhobdmhnocbgabGreatDoorSRowW
import Derived.Test.YtdhobdmhnocbgabGreatDoorSRecs
namespace Go.Proofs.YtdhobdmhnocbgabGreatDoor
open Go.RowKit Zr
theorem Q6M (s:ByteArray):s++(⟨#[]⟩:ByteArray)=s:=by
 apply ByteArray.ext
 simp [ByteArray.data_append]
set_option maxHeartbeats 1000000 in
theorem Q6N (s:ByteArray) (t:Int) (w:World) (hb:s.size≤65535) (ht:0≤t) :
  Calls Tryz.prog 205 #[.string s,.int .i64 t] w fun e w'=>e=.returned (.bool (Q2q t.toNat s))∧Below w.heap.size w w':=by
 obtain ⟨t,rfl⟩:=Int.eq_ofNat_of_zero_le ht
 rw [Int.toNat_natCast]
 by_cases d1:t=1
 ·subst d1
  have HV:Hid (Q2q 1 s=(s.size == 4)):=by show _=_; rfl
  go_enter Tryz.func205,Tryz.ntmps205
  go_wp2_with fail
  go_ret
  exact ⟨Q0B (by rw [Q6 HV,Bool.eq_iff_iff]; simp; omega),Below.refl _ _⟩
 have n1:((t:Int) == 1)=false:=beq_eq_false_iff_ne.2 (by omega)
 by_cases d2:t=28
 ·subst d2
  have HV:Hid (Q2q 28 s=(s.size == 16)):=by show _=_; rfl
  go_enter Tryz.func205,Tryz.ntmps205
  go_wp2_with fail
  go_ret
  exact ⟨Q0B (by rw [Q6 HV,Bool.eq_iff_iff]; simp; omega),Below.refl _ _⟩
 have n2:((t:Int) == 28)=false:=beq_eq_false_iff_ne.2 (by omega)
 by_cases d3:t=33
 ·subst d3
  have HV:Hid (Q2q 33 s=Qav s):=by show _=_; rfl
  go_enter Tryz.func205,Tryz.ntmps205
  go_wp2_with fail
  refine (QaS s _ hb).mono ?_
  rintro e w1 ⟨rfl,hb1⟩
  go_wp2_with fail
  go_ret
  exact ⟨Q0B (by rw [Q6 HV]),hb1⟩
 have n3:((t:Int) == 33)=false:=beq_eq_false_iff_ne.2 (by omega)
 by_cases d4:t=16
 ·subst d4
  have HV:Hid (Q2q 16 s=(s.size != 0 && Q2Q s 0 1)):=by show _=_; rfl
  by_cases hz:s.size=0
  ·have hz':s.toList.isEmpty=true:=by rw [Q1c]; simp [hz]
   go_enter Tryz.func205,Tryz.ntmps205
   go_wp2_with fail
   go_ret
   exact ⟨Q0B (by rw [Q6 HV]; simp [hz]),Below.refl _ _⟩
  ·have hz':s.toList.isEmpty=false:=by rw [Q1c]; simp [hz]
   have Hz:=Qa hz
   clear hz
   go_enter Tryz.func205,Tryz.ntmps205
   go_wp2_with fail
   refine (Qbn s 0 1 _ hb (by omega) (by omega) (by omega) (by omega)).mono ?_
   rintro e w1 ⟨rfl,hb1⟩
   go_wp2_with fail
   go_ret
   exact ⟨Q0B (by rw [Q6 HV]; simp [Q6 Hz]),hb1⟩
 have n4:((t:Int) == 16)=false:=beq_eq_false_iff_ne.2 (by omega)
 by_cases d5:t=41
 ·subst d5
  have HV:Hid (Q2q 41 s=Q2Q s 2 2):=by show _=_; rfl
  go_enter Tryz.func205,Tryz.ntmps205
  go_wp2_with fail
  refine (Qbn s 2 2 _ hb (by omega) (by omega) (by omega) (by omega)).mono ?_
  rintro e w1 ⟨rfl,hb1⟩
  go_wp2_with fail
  go_ret
  exact ⟨Q0B (by rw [Q6 HV]),hb1⟩
 have n5:((t:Int) == 41)=false:=beq_eq_false_iff_ne.2 (by omega)
 have HV:Hid (Q2q t s=true):=by show _=_; unfold Q2q; rw [if_neg d1,if_neg d2,if_neg d3,if_neg d4,if_neg d5]
 go_enter Tryz.func205,Tryz.ntmps205
 go_wp2_with fail
 go_ret
 exact ⟨Q0B (by rw [Q6 HV]),Below.refl _ _⟩
set_option maxHeartbeats 1000000 in
theorem Q6m (b:ByteArray) (k n m more:Int) (w:World) (hb:b.size≤65535) (hk:0≤k) (hn:0≤n) (hkn:k+n≤b.size) (hm:0≤m) (hm2:m≤2) (hr:0≤more) (hr2:more≤20) :
  Calls Tryz.prog 204 #[.string b,.int .i64 k,.int .i64 n,.int .i64 m,.int .i64 more] w fun e w' =>
   e=.returned (.tuple #[.string ((wn b k.toNat n.toNat m.toNat more.toNat).getD ⟨#[]⟩),.bool (wn b k.toNat n.toNat m.toNat more.toNat).isSome])∧Below w.heap.size w w':=by
 obtain ⟨k,rfl⟩:=Int.eq_ofNat_of_zero_le hk
 obtain ⟨n,rfl⟩:=Int.eq_ofNat_of_zero_le hn
 obtain ⟨m,rfl⟩:=Int.eq_ofNat_of_zero_le hm
 obtain ⟨more,rfl⟩:=Int.eq_ofNat_of_zero_le hr
 simp only [Int.toNat_natCast]
 generalize hR:w.heap.size=R
 go_enter Tryz.func204,Tryz.ntmps204
 go_wp2_with fail
 have h0:(w.alloc (.cells #[.string b,.int .i64 k,.int .i64 0] 122)).heap[R]? = some (rdr b k 0):=by rw [←hR]; exact heap_alloc_new _ _
 have h0':Below R w (w.alloc (.cells #[.string b,.int .i64 k,.int .i64 0] 122)):=(Below.refl _ _).alloc (Nat.le_of_eq hR.symm) _
 generalize w.alloc (.cells #[.string b,.int .i64 k,.int .i64 0] 122)=w0 at *
 have H0:=Qa h0
 clear h0
 go_loopw [13,14] (fun v i w'=>∃ (s:ByteArray) (j:Nat) (p:Nat) (f:Int),v=.string s∧i=.int .i64 j∧j≤m∧Hid (w'.heap[R]? = some (rdr b p f))∧Below R w w'∧s.size≤255 * j∧p≤b.size∧((Hid (f=0)∧Hid (Q0b b k j=.ok (s,p)))∨(Hid (f≠0)∧Hid (∀ i,j≤i→∃ x,Q0b b k i=.error x)))) (fun _ i _=>m - (intOf i).toNat)
 case atStart=>exact ⟨⟨#[]⟩,0,k,0,rfl,rfl,Nat.zero_le _,H0,h0',Nat.zero_le _,by omega,.inl ⟨rfl,rfl⟩⟩
 case round =>
  obtain ⟨s,j,p,f,rfl,rfl,hj,hp,hbw,hs,hpb,hcase⟩:=hrel
  have hRl:=Qb (Q6 hp)
  by_cases c:j < m
  ·rcases hcase with ⟨hf,hN⟩ | ⟨hf,hN⟩
   ·have hf0:=Q6 hf
    subst hf0
    cases hx:Q05 b p with
    | ok z =>
     obtain ⟨x,t⟩:=z
     obtain ⟨g1,g2,g3⟩:=Q0F b p x t hx
     have hnx:Q0b b k (j+1)=.ok (s++x,p+t):=by rw [Q0b,Q6 hN]; simp only; rw [hx]
     have Hx:=Qa hx
     have HNX:=Qa hnx
     clear hx hnx hN hf
     go_wp2_with fail
     refine (Q9f R b p _ (big hb) (Q6 hp) (by omega) (by omega) x t (by rw [Int.toNat_natCast]; exact Hx)).mono ?_
     rintro e w1 ⟨rfl,hR1,hg1⟩
     have HR1:=Qa hR1
     clear hR1
     go_wp2_with fail
     go_roundw
     case rel=>exact ⟨s++x,j+1,p+t,0,rfl,by go_num,by omega,HR1,Q1k hbw hg1 (by omega) (Nat.le_refl _),by rw [ByteArray.size_append]; omega,by omega,.inl ⟨rfl,HNX⟩⟩
     case measure=>simp [intOf]; omega
    | error x =>
     have hnx:Q0b b k (j+1)=.error x:=by rw [Q0b,Q6 hN]; simp only; rw [hx]
     have HNX:=Qa (Q8Q b k (j+1) x hnx)
     have Hx:=Qa hx
     clear hx hnx hN hf
     go_wp2_with fail
     refine (Q9T R b p _ (big hb) (Q6 hp) (by omega) (by omega) x (by rw [Int.toNat_natCast]; exact Hx)).mono ?_
     rintro e w1 ⟨hx0,rfl,hR1,hg1⟩
     have HR1:=Qa hR1
     have HX0:=Qa hx0
     clear hR1 hx0
     go_wp2_with fail
     go_roundw
     case rel=>exact ⟨s,j+1,p,x,by rw [Q6M],by go_num,by omega,HR1,Q1k hbw hg1 (by omega) (Nat.le_refl _),by omega,by omega,.inr ⟨HX0,HNX⟩⟩
     case measure=>simp [intOf]; omega
   ·go_wp2_with fail
    refine (Qbt R b p f _ (Q6 hp) (Q6 hf)).mono ?_
    rintro e w1 ⟨rfl,rfl⟩
    go_wp2_with fail
    go_roundw
    case rel=>exact ⟨s,j+1,p,f,by rw [Q6M],by go_num,by omega,hp,hbw,by omega,by omega,.inr ⟨hf,fun i hi=>Q6 hN i (by omega)⟩⟩
    case measure=>simp [intOf]; omega
  ·have hjm:j=m:=by omega
   subst hjm
   rcases hcase with ⟨hf,hN⟩ | ⟨hf,hN⟩
   ·have hf0:=Q6 hf
    subst hf0
    by_cases cs:p+more≤b.size
    ·by_cases ce:p+more=k+n
     ·have HW:=Qa (QjG b k n j more s p (Q6 hN) ce)
      have hz:(b.extract p (p+more)).size=more:=by rw [Q0Z _ _ _ (by omega) (by omega)]; omega
      have hne:(((p:Int)+more) != (k:Int)+n)=false:=by simp only [bne_eq_false_iff_eq]; omega
      have HZ:=Qa hz
      have hz':(b.extract p (p+more)).size≤20:=by omega
      clear hz ce
      go_wp2_with fail
      refine (Q3s R b p more _ hb (Q6 hp) (by omega) (by omega) (by omega)).mono ?_
      rw [Int.toNat_natCast,Int.toNat_natCast]
      rintro e w1 ⟨rfl,hR1,hg1⟩
      obtain ⟨c0,c1,c2,z0,z1,z2⟩:=Q0K hR1
      clear hR1
      go_wp2_with fail
      go_ret2
      exact ⟨by rw [Q6 HW]; rfl,Q1k hbw hg1 (by omega) (Nat.le_refl _)⟩
     ·have HW:=Qa (QjF b k n j more s p (Q6 hN) ce)
      have hne:(((p:Int)+more) != (k:Int)+n)=true:=by rw [bne_iff_ne]; omega
      clear ce
      go_wp2_with fail
      refine (Q3s R b p more _ hb (Q6 hp) (by omega) (by omega) (by omega)).mono ?_
      rw [Int.toNat_natCast,Int.toNat_natCast]
      rintro e w1 ⟨rfl,hR1,hg1⟩
      obtain ⟨c0,c1,c2,z0,z1,z2⟩:=Q0K hR1
      clear hR1
      go_wp2_with fail
      go_ret2
      exact ⟨by rw [Q6 HW]; rfl,Q1k hbw hg1 (by omega) (Nat.le_refl _)⟩
    ·have HW:=Qa (QjF b k n j more s p (Q6 hN) (by omega))
     go_wp2_with fail
     refine (Q3Z R b p more _ hb (Q6 hp) (by omega) (by omega) (by omega) (by omega)).mono ?_
     rintro e w1 ⟨rfl,hR1,hg1⟩
     obtain ⟨c0,c1,c2,z0,z1,z2⟩:=Q0K hR1
     clear hR1
     go_wp2_with fail
     go_ret2
     exact ⟨by rw [Q6 HW]; rfl,Q1k hbw hg1 (by omega) (Nat.le_refl _)⟩
   ·obtain ⟨x,hx⟩:=Q6 hN j (Nat.le_refl _)
    have HW:=Qa (QjE b k n j more x hx)
    have hf0:(f != 0)=true:=by rw [bne_iff_ne]; exact Q6 hf
    clear hx
    go_wp2_with fail
    refine (Q3K R b p f more _ (Q6 hp) (Q6 hf)).mono ?_
    rintro e w1 ⟨rfl,rfl⟩
    obtain ⟨c0,c1,c2,z0,z1,z2⟩:=Q0K (Q6 hp)
    go_wp2_with fail
    go_ret2
    exact ⟨by rw [Q6 HW]; rfl,hbw⟩
theorem Qk4 (b:ByteArray) (k n t:Nat) (h:t=2∨t=5∨t=12):Q1n b k n t=wn b k n 1 0:=by unfold Q1n; rw [if_pos h]
theorem Qk5 (b:ByteArray) (k n:Nat):Q1n b k n 6=wn b k n 2 20:=by unfold Q1n; rw [if_neg (by omega),if_pos rfl]
theorem Qk6 (b:ByteArray) (k n t:Nat) (h:¬ (t=2∨t=5∨t=12)) (h6:t≠6):Q1n b k n t=if Q2q t (b.extract k (k+n)) then some (b.extract k (k+n)) else none:=by
 unfold Q1n; rw [if_neg h,if_neg h6]
set_option maxHeartbeats 400000 in
theorem Q66 (t:Int) (w:World) :
  Calls Tryz.prog 194 #[.int .i64 t] w fun e w'=>e=.returned (.tuple #[.int .i64 (if t=2∨t=5∨t=12 then 1 else if t=6 then 2 else 0),.int .i64 (if t=2∨t=5∨t=12 then 0 else if t=6 then 20 else 0)])∧w'=w:=by
 by_cases d1:t=2∨t=5∨t=12
 ·rw [if_pos d1,if_pos d1]
  rcases d1 with rfl | rfl | rfl
  all_goals
   go_enter Tryz.func194,Tryz.ntmps194
   go_wp2_with fail
   go_ret2
   exact ⟨rfl,rfl⟩
 ·rw [if_neg d1,if_neg d1]
  have n1:(t == 2)=false:=beq_eq_false_iff_ne.2 (by omega)
  have n2:(t == 5)=false:=beq_eq_false_iff_ne.2 (by omega)
  have n3:(t == 12)=false:=beq_eq_false_iff_ne.2 (by omega)
  by_cases d2:t=6
  ·subst d2
   rw [if_pos rfl,if_pos rfl]
   clear d1 n1 n2 n3
   go_enter Tryz.func194,Tryz.ntmps194
   go_wp2_with fail
   go_ret2
   exact ⟨rfl,rfl⟩
  ·rw [if_neg d2,if_neg d2]
   have n4:(t == 6)=false:=beq_eq_false_iff_ne.2 d2
   clear d1 d2
   go_enter Tryz.func194,Tryz.ntmps194
   go_wp2_with fail
   go_ret2
   exact ⟨rfl,rfl⟩
theorem Q8O (t:Int) (w:World) (h:t=2∨t=5∨t=12):Calls Tryz.prog 194 #[.int .i64 t] w fun e w'=>e=.returned (.tuple #[.int .i64 1,.int .i64 0])∧w'=w:=by
 have:=Q66 t w
 rw [if_pos h,if_pos h] at this
 exact this
theorem Q8P (w:World):Calls Tryz.prog 194 #[.int .i64 6] w fun e w'=>e=.returned (.tuple #[.int .i64 2,.int .i64 20])∧w'=w:=Q66 6 w
theorem Q5w (t:Int) (w:World) (h:¬ (t=2∨t=5∨t=12)) (h6:t≠6):Calls Tryz.prog 194 #[.int .i64 t] w fun e w'=>e=.returned (.tuple #[.int .i64 0,.int .i64 0])∧w'=w:=by
 have:=Q66 t w
 rw [if_neg h,if_neg h,if_neg h6,if_neg h6] at this
 exact this
set_option maxHeartbeats 1000000 in
theorem Q6U (b raw:ByteArray) (k n t:Nat) (w:World) (hb:b.size≤65535) (hraw:Hid (raw=b.extract k (k+n))) (hkn:k+n≤b.size) :
  Calls Tryz.prog 191 #[.string b,.int .i64 k,.string raw,.int .i64 t] w fun e w' =>
   e=.returned (.tuple #[.string ((Q1n b k n t).getD ⟨#[]⟩),.bool (Q1n b k n t).isSome])∧Below w.heap.size w w':=by
 have hsz:raw.size=n:=by rw [Q6 hraw,Q0Z _ _ _ (by omega) hkn]; omega
 have hcn:((raw.size:Nat):Int)=(n:Int):=by rw [hsz]
 have hle:raw.size≤65535:=by omega
 clear hsz
 by_cases d1:t=2∨t=5∨t=12
 ·have HW:=Qa (Qk4 b k n t d1)
  have key:∀ w,Calls Tryz.prog 204 #[.string b,.int .i64 k,.int .i64 n,.int .i64 1,.int .i64 0] w fun e w'=>e=.returned (.tuple #[.string ((Q1n b k n t).getD ⟨#[]⟩),.bool (Q1n b k n t).isSome])∧Below w.heap.size w w':=by
   intro w
   have h:=Q6m b k n 1 0 w hb (by omega) (by omega) (by omega) (by omega) (by omega) (by omega) (by omega)
   simp only [Int.toNat_natCast] at h
   rw [Q6 HW]
   exact h
  have Key:=Qa key
  have d1':(t:Int)=2∨(t:Int)=5∨(t:Int)=12:=by omega
  have D1:=Qa d1'
  clear key d1 d1'
  go_enter Tryz.func191,Tryz.ntmps191
  go_wp2_with fail
  refine (Q8O _ _ (Q6 D1)).mono ?_
  rintro e w1 ⟨rfl,rfl⟩
  go_wp2_with fail
  refine (Q6 Key _).mono ?_
  rintro e w1 ⟨rfl,hb1⟩
  go_wp2_with fail
  go_ret2
  exact ⟨rfl,hb1⟩
 by_cases d2:t=6
 ·subst d2
  have HW:=Qa (Qk5 b k n)
  go_enter Tryz.func191,Tryz.ntmps191
  go_wp2_with fail
  refine (Q8P _).mono ?_
  rintro e w1 ⟨rfl,rfl⟩
  go_wp2_with fail
  refine (Q6m b k n 2 20 _ hb (by omega) (by omega) (by omega) (by omega) (by omega) (by omega) (by omega)).mono ?_
  simp only [Int.toNat_natCast]
  rintro e w1 ⟨rfl,hb1⟩
  go_wp2_with fail
  go_ret2
  exact ⟨by rw [Q6 HW]; rfl,hb1⟩
 have hW:=Qk6 b k n t d1 d2
 rw [←Q6 hraw] at hW
 have D1:Hid (¬ ((t:Int)=2∨(t:Int)=5∨(t:Int)=12)):=by show ¬ _; omega
 have D2:Hid ((t:Int)≠6):=by show ¬ _; omega
 clear d1 d2 hcn
 cases hf:Q2q t raw with
 | true =>
  rw [hf,if_pos rfl] at hW
  have HF:=Qa hf
  have HW:=Qa hW
  clear hf hW
  go_enter Tryz.func191,Tryz.ntmps191
  go_wp2_with fail
  refine (Q5w _ _ (Q6 D1) (Q6 D2)).mono ?_
  rintro e w1 ⟨rfl,rfl⟩
  go_wp2_with fail
  refine (Q6N raw t _ hle (by omega)).mono ?_
  rw [Int.toNat_natCast,Q6 HF]
  rintro e w1 ⟨rfl,hb1⟩
  go_wp2_with fail
  go_ret2
  exact ⟨by rw [Q6 HW]; rfl,hb1⟩
 | false =>
  rw [hf,if_neg (by decide)] at hW
  have HF:=Qa hf
  have HW:=Qa hW
  clear hf hW
  go_enter Tryz.func191,Tryz.ntmps191
  go_wp2_with fail
  refine (Q5w _ _ (Q6 D1) (Q6 D2)).mono ?_
  rintro e w1 ⟨rfl,rfl⟩
  go_wp2_with fail
  refine (Q6N raw t _ hle (by omega)).mono ?_
  rw [Int.toNat_natCast,Q6 HF]
  rintro e w1 ⟨rfl,hb1⟩
  go_wp2_with fail
  go_ret2
  exact ⟨by rw [Q6 HW]; rfl,hb1⟩
def Qe1 (w:World) (R:Nat) (b:ByteArray) (x:Int):Prop:=x≠0∧∃ k:Int,w.heap[R]? = some (rdr b k x)
theorem Q1S {W w1:World} {R k:Nat} {o:Obj} (hg:W.grownBy w1 (some R)) (h:W.heap[k]? = some o) (hne:k≠R):w1.heap[k]? = some o :=
 (hg.block k (Qb h) (by simpa using hne)).trans h
theorem Q4p {w:World} {k:Nat} {x y z:Value} {t:TypeId} (h:w.heap[k]? = some (.cells #[x,y,z] t (0,0))) :
  (w.cell? ⟨k,0,none⟩=some x∧w.cell? ⟨k,1,none⟩=some y∧w.cell? ⟨k,2,none⟩=some z)∧(w.frozen? ⟨k,0,none⟩=false∧w.frozen? ⟨k,1,none⟩=false∧w.frozen? ⟨k,2,none⟩=false):=by
 refine ⟨⟨?_,?_,?_⟩,Qd h _,Qd h _,Qd h _⟩ <;> (rw [Qc h]; rfl)
theorem Q1a {w:World} {k:Nat} {x y z u v:Value} {t:TypeId} (h:w.heap[k]? = some (.cells #[x,y,z,u,v] t (0,0))) :
  (w.cell? ⟨k,0,none⟩=some x∧w.cell? ⟨k,1,none⟩=some y∧w.cell? ⟨k,2,none⟩=some z∧w.cell? ⟨k,3,none⟩=some u∧w.cell? ⟨k,4,none⟩=some v) ∧
  (w.frozen? ⟨k,0,none⟩=false∧w.frozen? ⟨k,1,none⟩=false∧w.frozen? ⟨k,2,none⟩=false∧w.frozen? ⟨k,3,none⟩=false∧w.frozen? ⟨k,4,none⟩=false):=by
 refine ⟨⟨?_,?_,?_,?_,?_⟩,Qd h _,Qd h _,Qd h _,Qd h _,Qd h _⟩ <;> (rw [Qc h]; rfl)
theorem Q2V (w:World) (A B:Obj) (row:Option Nat):w.grownBy ((w.alloc A).alloc B) row :=
 Qp (World.grownBy_alloc w A row) (World.grownBy_alloc _ B row)
theorem Q2f (w:World) (A B:Obj):((w.alloc A).alloc B).heap[w.heap.size]? = some A∧((w.alloc A).alloc B).heap[w.heap.size+1]? = some B:=by
 refine ⟨?_,?_⟩
 ·rw [Below.heap_alloc _ _ _ (by simp)]; exact heap_alloc_new _ _
 ·have:=heap_alloc_new (w.alloc A) B
  simpa using this
set_option maxHeartbeats 1000000 in
theorem Qgz (R:Nat) (b:ByteArray) (k f t:Int) (w:World) (hR:w.heap[R]? = some (rdr b k f)) (hf:f≠0) :
  Calls Tryz.prog 177 #[.pointer (some ⟨R,0,none⟩),.int .i64 t] w fun e w'=>e=.returned (.string ⟨#[]⟩)∧w'=w:=by
 have HR:=Qa hR
 obtain ⟨c0,c1,c2,z0,z1,z2⟩:=Q0K hR
 clear hR
 have hf':(f != 0)=true:=by rw [bne_iff_ne]; exact hf
 go_enter Tryz.func177,Tryz.ntmps177
 go_wp2_with fail
 refine (Q67 R b k f 2 _ (Q6 HR) hf).mono ?_
 rintro e w' ⟨rfl,rfl⟩
 go_wp2_with fail
 refine (Q3K R b k f 0 _ (Q6 HR) hf).mono ?_
 rintro e w' ⟨rfl,rfl⟩
 go_wp2_with fail
 go_ret
 exact ⟨rfl,rfl⟩
set_option maxHeartbeats 1000000 in
theorem Qeq (R:Nat) (b:ByteArray) (p:Nat) (t:Int) (w:World) (hb:b.size≤65535) (hR:w.heap[R]? = some (rdr b p 0)) (hp:p≤b.size) (hs:b.size < p+2∨b.size < p+2+num b p 2) :
  Calls Tryz.prog 177 #[.pointer (some ⟨R,0,none⟩),.int .i64 t] w fun e w'=>e=.returned (.string ⟨#[]⟩)∧Qe1 w' R b 2∧w.grownBy w' (some R):=by
 by_cases c:b.size < p+2
 ·clear hs
  go_enter Tryz.func177,Tryz.ntmps177
  go_wp2_with fail
  refine (Q5y R b p 2 _ hb hR (by omega) (by omega) (by omega) (by omega)).mono ?_
  rintro e w1 ⟨rfl,hR1,hg1⟩
  obtain ⟨c0,c1,c2,z0,z1,z2⟩:=Q0K hR1
  have HR1:=Qa hR1
  clear hR hR1
  go_wp2_with fail
  refine (Q3K R b p 2 0 _ (Q6 HR1) (by decide)).mono ?_
  rintro e w' ⟨rfl,rfl⟩
  go_wp2_with fail
  go_ret
  exact ⟨rfl,⟨by decide,p,Q6 HR1⟩,hg1⟩
 ·have hs':b.size < p+2+num b p 2:=by omega
  have hl:=Q0n b p
  clear hs
  go_enter Tryz.func177,Tryz.ntmps177
  go_wp2_with fail
  refine (Q53 R b p 2 _ hb hR (by omega) (by omega) (by omega) (by omega)).mono ?_
  rw [Int.toNat_natCast]
  rintro e w1 ⟨rfl,hR1,hg1⟩
  obtain ⟨c0,c1,c2,z0,z1,z2⟩:=Q0K hR1
  have HR1:=Qa hR1
  clear hR hR1
  have e2:(2:Int).toNat=2:=rfl
  rw [e2]
  go_wp2_with fail
  refine (Q3Z R b (p+2) (num b p 2) _ hb (Q6 HR1) (by omega) (by omega) (by omega) (by omega)).mono ?_
  rintro e w2 ⟨rfl,hR2,hg2⟩
  have HR2:=Qa hR2
  clear c0 c1 c2 z0 z1 z2
  obtain ⟨c0,c1,c2,z0,z1,z2⟩:=Q0K hR2
  clear hR2
  go_wp2_with fail
  go_ret
  exact ⟨rfl,⟨by decide,_,Q6 HR2⟩,Qp hg1 hg2⟩
set_option maxHeartbeats 1000000 in
theorem Qbj (R:Nat) (b:ByteArray) (p t:Nat) (w:World) (hb:b.size≤65535) (hR:w.heap[R]? = some (rdr b p 0)) (hs:p+2+num b p 2≤b.size) (res:Option ByteArray) (hd:Hid (Q1n b (p+2) (num b p 2) t=res)) :
  Calls Tryz.prog 177 #[.pointer (some ⟨R,0,none⟩),.int .i64 t] w fun e w'=>e=.returned (.string (res.getD ⟨#[]⟩))∧(match res with
   | none=>Qe1 w' R b 4
   | some _=>w'.heap[R]? = some (rdr b (p+2+num b p 2:Nat) 0))∧w.grownBy w' (some R):=by
 have hl:=Q0n b p
 go_enter Tryz.func177,Tryz.ntmps177
 go_wp2_with fail
 refine (Q53 R b p 2 _ hb hR (by omega) (by omega) (by omega) (by omega)).mono ?_
 rw [Int.toNat_natCast]
 rintro e w1 ⟨rfl,hR1,hg1⟩
 obtain ⟨c0,c1,c2,z0,z1,z2⟩:=Q0K hR1
 have HR1:=Qa hR1
 clear hR hR1
 have e2:(2:Int).toNat=2:=rfl
 rw [e2]
 go_wp2_with fail
 refine (Q3s R b (p+2) (num b p 2) _ hb (Q6 HR1) (by omega) (by omega) (by omega)).mono ?_
 have e3:((p:Int)+2).toNat=p+2:=by omega
 rw [e3,Int.toNat_natCast]
 rintro e w2 ⟨rfl,hR2,hg2⟩
 clear e2 e3
 have HR2:=Qa hR2
 clear c0 c1 c2 z0 z1 z2
 obtain ⟨c0,c1,c2,z0,z1,z2⟩:=Q0K hR2
 clear hR2
 generalize hraw:b.extract (p+2) (p+2+num b p 2)=raw
 have Hraw:=Qa hraw.symm
 clear hraw
 go_wp2_with fail
 have hw:=Q6U b raw (p+2) (num b p 2) t w2 hb Hraw (by omega)
 rw [Q6 hd,show (((p+2:Nat):Int))=(p:Int)+2 from by omega] at hw
 refine hw.mono ?_
 clear hw
 rintro e w3 ⟨rfl,hb3⟩
 have hRl:=Qb (Q6 HR2)
 have hR3:=(hb3.block R hRl).trans (Q6 HR2)
 have HR3:=Qa hR3
 clear c0 c1 c2 z0 z1 z2
 obtain ⟨c0,c1,c2,z0,z1,z2⟩:=Q0K hR3
 have hg3:=Qp (Qp hg1 hg2) (Q1l (row:=some R) hb3)
 clear hR3
 cases res with
 | none =>
  simp only [Option.getD_none,Option.isSome_none]
  go_wp2_with fail
  go_ret
  exact ⟨rfl,⟨by decide,_,Q7T (Q6 HR3) 4⟩,Qp hg3 (Ql _ _ _ _)⟩
 | some d =>
  simp only [Option.getD_some,Option.isSome_some]
  go_wp2_with fail
  go_ret
  refine ⟨rfl,?_,hg3⟩
  have:=Q6 HR3
  rw [this]
end Go.Proofs.YtdhobdmhnocbgabGreatDoor
