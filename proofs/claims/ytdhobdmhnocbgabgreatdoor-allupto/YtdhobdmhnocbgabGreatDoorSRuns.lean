import Derived.Test.YtdhobdmhnocbgabGreatDoorSItoa
namespace Go.Proofs.YtdhobdmhnocbgabGreatDoor
open Go.RowKit Zr
set_option maxHeartbeats 400000 in
theorem Q8e (b:ByteArray) (s k:Int) (w:World) (hb:b.size≤281474976710656) (hs0:0≤s) (hs:s≤k) (hk0:k < b.size) :
  Calls Tryz.prog 203 #[.string b,.int .i64 s,.int .i64 k] w fun e w'=>e=.returned (ptr b s.toNat k.toNat).val∧Below w.heap.size w w':=by
 obtain ⟨s,rfl⟩:=Int.eq_ofNat_of_zero_le hs0
 obtain ⟨k,rfl⟩:=Int.eq_ofNat_of_zero_le (Int.le_trans hs0 hs)
 rw [Int.toNat_natCast,Int.toNat_natCast]
 have hk:k < b.size:=by omega
 have hg:=Q10 b k hk
 have hl:=Q20 b k
 have hs':¬ ((s:Int) < 0):=by omega
 have hs2:¬ ((k:Int) < s):=by omega
 by_cases c1:bt b k < 192
 ·have HR:Hid ((ptr b s k).val=.agg #[.string ⟨#[]⟩,.int .i64 0,.bool false,.int .i64 0,.int .i64 3]):=by show _=_; simp [ptr,c1,Run.bad,Run.val]
  go_enter Tryz.func203,Tryz.ntmps203
  go_wp2_with (go_at_call 175; refine (Q2H _ _ _ _ hb (by omega) (by omega) (by omega)).mono ?_; rintro e w' ⟨rfl,rfl⟩)
  refine bodyPost_ret (v:=.agg #[.string ⟨#[]⟩,.int .i64 0,.bool false,.int .i64 0,.int .i64 3]) (by simp [results,Tryz.results203,go_sem]) rfl ⟨by rw [HR.out],(Below.refl _ _).alloc (Nat.le_refl _) _⟩
 ·by_cases c2:b.size≤k+1
  ·have HR:Hid ((ptr b s k).val=.agg #[.string ⟨#[]⟩,.int .i64 0,.bool false,.int .i64 0,.int .i64 2]):=by show _=_; simp [ptr,c1,c2,Run.bad,Run.val]
   go_enter Tryz.func203,Tryz.ntmps203
   go_wp2_with fail
   refine (Q2H _ _ _ _ hb (by omega) (by omega) (by omega)).mono ?_; rintro e w' ⟨rfl,rfl⟩
   go_wp2_with fail
   refine (Q9H _ _ _ _ hb (by omega) (by omega) (by omega) (by omega)).mono ?_; rintro e w' ⟨rfl,rfl⟩
   go_wp2_with fail
   refine bodyPost_ret (v:=.agg #[.string ⟨#[]⟩,.int .i64 0,.bool false,.int .i64 0,.int .i64 2]) (by simp [results,Tryz.results203,go_sem]) rfl ⟨by rw [HR.out],(Below.refl _ _).alloc (Nat.le_refl _) _⟩
  ·have hg1:=Q10 b (k+1) (by omega)
   have hl1:=Q20 b (k+1)
   have ht:((256 * (bt b k - 192)+bt b (k+1):Nat):Int)=256 * ((bt b k:Int) - 192)+bt b (k+1):=by omega
   by_cases c3:s≤256 * (bt b k - 192)+bt b (k+1)
   ·have HR:Hid ((ptr b s k).val=.agg #[.string ⟨#[]⟩,.int .i64 0,.bool false,.int .i64 0,.int .i64 3]):=by show _=_; simp [ptr,c1,c2,c3,Run.bad,Run.val]
    have HT:=c3
    clear ht c3
    go_enter Tryz.func203,Tryz.ntmps203
    go_wp2_with (go_at_call 175; refine (Q2H _ _ _ _ hb (by omega) (by omega) (by omega)).mono ?_; rintro e w' ⟨rfl,rfl⟩)
    refine bodyPost_ret (v:=.agg #[.string ⟨#[]⟩,.int .i64 0,.bool false,.int .i64 0,.int .i64 3]) (by simp [results,Tryz.results203,go_sem]) rfl ⟨by rw [HR.out],(Below.refl _ _).alloc (Nat.le_refl _) _⟩
   ·have HR:Hid ((ptr b s k).val=.agg #[.string (b.extract s k),.int .i64 ((k:Int)+2),.bool true,.int .i64 (256 * ((bt b k:Int) - 192)+bt b (k+1)),.int .i64 0]):=by show _=_; simp [ptr,c1,c2,c3,Run.val]; omega
    clear ht
    go_enter Tryz.func203,Tryz.ntmps203
    go_wp2_with (go_at_call 175; refine (Q2H _ _ _ _ hb (by omega) (by omega) (by omega)).mono ?_; rintro e w' ⟨rfl,rfl⟩)
    refine bodyPost_ret (v:=.agg #[.string (b.extract s k),.int .i64 ((k:Int)+2),.bool true,.int .i64 (256 * ((bt b k:Int) - 192)+bt b (k+1)),.int .i64 0]) (by simp [results,Tryz.results203,go_sem]) rfl ⟨by rw [HR.out],(Below.refl _ _).alloc (Nat.le_refl _) _⟩
set_option maxHeartbeats 1000000 in
theorem Qdw (b:ByteArray) (s room:Int) (w:World) (hb:b.size≤281474976710656) (hs0:0≤s) (hs1:s≤281474976710656) :
  Calls Tryz.prog 190 #[.string b,.int .i64 s,.int .i64 room] w fun e w'=>e=.returned (Q15 b s.toNat room).val∧Below w.heap.size w w':=by
 obtain ⟨s,rfl⟩:=Int.eq_ofNat_of_zero_le hs0
 rw [Int.toNat_natCast]
 go_enter Tryz.func190,Tryz.ntmps190
 go_wp2_with fail
 go_loop [7] (fun a=>∃ k:Nat,s≤k∧(k≤b.size∨k=s)∧a=.int .i64 k∧∃ f,b.size < k+f∧Hid (Q15 b s room=Q1g b s room f k)) (fun a=>b.size - (intOf a).toNat)
 case atStart=>exact ⟨s,Nat.le_refl _,.inr rfl,rfl,b.size+1,by omega,rfl⟩
 case round =>
  obtain ⟨k,hsk,hkb,rfl,f,hf,HF⟩:=hrel
  by_cases c0:b.size≤k
  ·have HR:Hid ((Q15 b s room).val=.agg #[.string ⟨#[]⟩,.int .i64 0,.bool false,.int .i64 0,.int .i64 2]):=by
    show _=_
    rw [HF.out]
    cases f with
    | zero=>rfl
    | succ f=>simp [Q1g,c0,Run.bad,Run.val]
   go_wp2_with fail
   refine (Q9H _ _ _ _ hb (by omega) (by omega) (by omega) (by omega)).mono ?_; rintro e w' ⟨rfl,rfl⟩
   go_wp2_with fail
   refine bodyPost_ret (v:=.agg #[.string ⟨#[]⟩,.int .i64 0,.bool false,.int .i64 0,.int .i64 2]) (by simp [results,Tryz.results190,go_sem]) rfl ⟨by rw [HR.out],(Below.refl _ _).alloc (Nat.le_refl _) _⟩
  ·have hk:k < b.size:=by omega
   obtain ⟨f,rfl⟩:∃ g,f=g+1:=⟨f - 1,by omega⟩
   have hg:=Q10 b k hk
   have hl:=Q20 b k
   by_cases c1:bt b k=0
   ·have HR:Hid ((Q15 b s room).val=.agg #[.string (b.extract s k),.int .i64 ((k:Int)+1),.bool false,.int .i64 0,.int .i64 0]):=by
     show _=_
     rw [HF.out]; simp [Q1g,c0,c1,Run.val]
    rw [c1] at hg
    clear c1
    go_wp2_with fail
    refine (Q2H _ _ _ _ hb (by omega) (by omega) (by omega)).mono ?_; rintro e w' ⟨rfl,rfl⟩
    go_wp2_with fail
    refine bodyPost_ret (v:=.agg #[.string (b.extract s k),.int .i64 ((k:Int)+1),.bool false,.int .i64 0,.int .i64 0]) (by simp [results,Tryz.results190,go_sem]) rfl ⟨by rw [HR.out],(Below.refl _ _).alloc (Nat.le_refl _) _⟩
   ·have c1':((bt b k:Int) == 0)=false:=beq_eq_false_iff_ne.2 (by omega)
    by_cases c2:63 < bt b k
    ·have HR:Hid (Q15 b s room=ptr b s k):=by
      show _=_
      rw [HF.out]; simp [Q1g,c0,c1,c2]
     go_wp2_with fail
     refine (Q2H _ _ _ _ hb (by omega) (by omega) (by omega)).mono ?_; rintro e w' ⟨rfl,rfl⟩
     go_wp2_with fail
     refine (Q8e _ _ _ _ hb (by omega) (by omega) (by omega)).mono ?_
     rw [Int.toNat_natCast,Int.toNat_natCast]
     rintro e w1 ⟨rfl,hb1⟩
     generalize hr:ptr b s k=r at *
     clear hr
     obtain ⟨L,nx,p,t,fl⟩:=r
     simp only [Run.val]
     obtain ⟨hc,hfz⟩:=Ql3 hb1
     have hz:w.heap.size < w1.heap.size:=by have:=hb1.size; simp at this; omega
     go_wp2_with fail
     refine bodyPost_ret (v:=.agg #[.string L,.int .i64 nx,.bool p,.int .i64 t,.int .i64 fl]) ?_ rfl ⟨?_,?_⟩
     ·simp [results,Tryz.results190,go_sem,hc]
     ·rw [HR.out]; rfl
     ·refine Below.setCell (Below.setCell (Below.setCell (Below.setCell (Below.setCell ?_ (by simp) _) (by simp) _) (by simp) _) (by simp) _) (by simp) _
      exact ((Below.refl _ _).alloc (Nat.le_refl _) _).trans (hb1.mono (by simp))
    ·by_cases c3:b.size < k+1+bt b k
     ·have HR:Hid ((Q15 b s room).val=.agg #[.string ⟨#[]⟩,.int .i64 0,.bool false,.int .i64 0,.int .i64 2]):=by
       show _=_
       rw [HF.out]; simp [Q1g,c0,c1,c2,c3,Run.bad,Run.val]
      go_wp2_with fail
      refine (Q2H _ _ _ _ hb (by omega) (by omega) (by omega)).mono ?_; rintro e w' ⟨rfl,rfl⟩
      go_wp2_with fail
      refine (Q9H _ _ _ _ hb (by omega) (by omega) (by omega) (by omega)).mono ?_; rintro e w' ⟨rfl,rfl⟩
      go_wp2_with fail
      refine bodyPost_ret (v:=.agg #[.string ⟨#[]⟩,.int .i64 0,.bool false,.int .i64 0,.int .i64 2]) (by simp [results,Tryz.results190,go_sem]) rfl ⟨by rw [HR.out],(Below.refl _ _).alloc (Nat.le_refl _) _⟩
     ·by_cases c4:room < ((k+1+bt b k:Nat):Int) - s
      ·have HR:Hid ((Q15 b s room).val=.agg #[.string ⟨#[]⟩,.int .i64 0,.bool false,.int .i64 0,.int .i64 3]):=by
        show _=_
        rw [HF.out]; simp only [Q1g]; rw [if_neg c0,if_neg c1,if_neg c2,if_neg c3,if_pos c4]; rfl
       go_wp2_with fail
       refine (Q2H _ _ _ _ hb (by omega) (by omega) (by omega)).mono ?_; rintro e w' ⟨rfl,rfl⟩
       go_wp2_with fail
       refine (Q2H _ _ _ _ hb (by omega) (by omega) (by omega)).mono ?_; rintro e w' ⟨rfl,rfl⟩
       go_wp2_with fail
       refine bodyPost_ret (v:=.agg #[.string ⟨#[]⟩,.int .i64 0,.bool false,.int .i64 0,.int .i64 3]) (by simp [results,Tryz.results190,go_sem]) rfl ⟨by rw [HR.out],(Below.refl _ _).alloc (Nat.le_refl _) _⟩
      ·have HR:Hid (Q15 b s room=Q1g b s room f (k+1+bt b k)):=by
        show _=_
        rw [HF.out]; simp only [Q1g]; rw [if_neg c0,if_neg c1,if_neg c2,if_neg c3,if_neg c4]
       go_wp2_with fail
       refine (Q2H _ _ _ _ hb (by omega) (by omega) (by omega)).mono ?_; rintro e w' ⟨rfl,rfl⟩
       go_wp2_with fail
       refine (Q2H _ _ _ _ hb (by omega) (by omega) (by omega)).mono ?_; rintro e w' ⟨rfl,rfl⟩
       go_wp2_with fail
       go_round
       case rel=>exact ⟨k+1+bt b k,by omega,by omega,by go_num,f,by omega,HR⟩
       case measure=>simp [intOf]; omega
theorem Q7d (b:ByteArray) (s room:Int) (w:World) (r:Run) (hr:Hid (Q15 b s.toNat room=r)) (hb:b.size≤281474976710656) (hs0:0≤s) (hs1:s≤281474976710656) :
  Calls Tryz.prog 190 #[.string b,.int .i64 s,.int .i64 room] w fun e w'=>e=.returned (.agg #[.string r.labels,.int .i64 r.next,.bool r.pointed,.int .i64 r.to,.int .i64 r.fail])∧Below w.heap.size w w':=by
 rw [←hr.out]
 exact Qdw b s room w hb hs0 hs1
end Go.Proofs.YtdhobdmhnocbgabGreatDoor
