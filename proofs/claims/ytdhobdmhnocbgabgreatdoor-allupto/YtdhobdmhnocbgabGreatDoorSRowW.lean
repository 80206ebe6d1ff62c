import Derived.Test.YtdhobdmhnocbgabGreatDoorSRuns
import Derived.Deep.QuietTactic
import Derived.BigQuiet
import Derived.Test.YtdhobdmhnocbgabGreatDoorSNames
import Derived.Deep.RegionHeld3
import Derived.Deep.LoopGhost
import Derived.Deep.DeepCutAuto
import Derived.Test.YtdhobdmhnocbgabGreatDoorSDatas
namespace Go.Proofs.YtdhobdmhnocbgabGreatDoor
open Go.RowKit Zr
def rdr (b:ByteArray) (k e:Int):Obj:=.cells #[.string b,.int .i64 k,.int .i64 e] 122 (0,0)
theorem Q0K {w:World} {R:Nat} {b:ByteArray} {k e:Int} (h:w.heap[R]? = some (rdr b k e)) :
  w.cell? ⟨R,0,none⟩=some (.string b)∧w.cell? ⟨R,1,none⟩=some (.int .i64 k)∧w.cell? ⟨R,2,none⟩=some (.int .i64 e) ∧
  w.frozen? ⟨R,0,none⟩=false∧w.frozen? ⟨R,1,none⟩=false∧w.frozen? ⟨R,2,none⟩=false:=by
 unfold rdr at h
 refine ⟨?_,?_,?_,Qd h _,Qd h _,Qd h _⟩ <;> (rw [Qc h]; rfl)
theorem Qdv {w:World} {R:Nat} {b:ByteArray} {k e:Int} (h:w.heap[R]? = some (rdr b k e)) (j:Int):(w.setCell ⟨R,1,none⟩ (.int .i64 j)).heap[R]? = some (rdr b j e):=by
 exact Qo h _ _
theorem Q7T {w:World} {R:Nat} {b:ByteArray} {k e:Int} (h:w.heap[R]? = some (rdr b k e)) (j:Int):(w.setCell ⟨R,2,none⟩ (.int .i64 j)).heap[R]? = some (rdr b k j):=by
 exact Qo h _ _
theorem Ql (w:World) (R o:Nat) (v:Value):w.grownBy (w.setCell ⟨R,o,none⟩ v) (some R) :=
 ⟨rfl,rfl,rfl,by simp [World.setCell],fun k _ hk=>Below.heap_setCell _ _ _ _ (fun e=>hk (by rw [e]))⟩
theorem Q3d (w:World) (row:Option Nat):w.grownBy w row:=⟨rfl,rfl,rfl,Nat.le_refl _,fun _ _ _=>rfl⟩
theorem Q40 (w:World) (n:Nat) (row:Option Nat):w.grownBy (w.drewN n) row:=⟨rfl,rfl,rfl,Nat.le_refl _,fun _ _ _=>rfl⟩
theorem Qp {a b c:World} {row:Option Nat} (h:a.grownBy b row) (k:b.grownBy c row):a.grownBy c row :=
 ⟨k.os.trans h.os,k.tape.trans h.tape,k.output.trans h.output,Nat.le_trans h.size k.size,fun i hi hr=>(k.block i (Nat.lt_of_lt_of_le hi h.size) hr).trans (h.block i hi hr)⟩
theorem Q1l {a b:World} {row:Option Nat} (h:Below a.heap.size a b):a.grownBy b row:=⟨h.os,h.tape,h.output,h.size,fun k hk _=>h.block k hk⟩
set_option maxHeartbeats 400000 in
theorem Q3K (R:Nat) (b:ByteArray) (k f n:Int) (w:World) (hR:w.heap[R]? = some (rdr b k f)) (hf:f≠0) :
  Calls Tryz.prog 147 #[.pointer (some ⟨R,0,none⟩),.int .i64 n] w fun e w'=>e=.returned (.string ⟨#[]⟩)∧w'=w:=by
 obtain ⟨c0,c1,c2,z0,z1,z2⟩:=Q0K hR
 clear hR
 have hf':(f != 0)=true:=by rw [bne_iff_ne]; exact hf
 go_enter Tryz.func147,Tryz.ntmps147
 go_wp2_with fail
 go_ret
 exact ⟨rfl,rfl⟩
set_option maxHeartbeats 400000 in
theorem Q3s (R:Nat) (b:ByteArray) (k n:Int) (w:World) (hb:b.size≤65535) (hR:w.heap[R]? = some (rdr b k 0)) (h1:0≤k) (h2:0≤n) (h3:k+n≤b.size) :
  Calls Tryz.prog 147 #[.pointer (some ⟨R,0,none⟩),.int .i64 n] w fun e w'=>e=.returned (.string (b.extract k.toNat (k.toNat+n.toNat)))∧w'.heap[R]? = some (rdr b (k+n) 0)∧w.grownBy w' (some R):=by
 obtain ⟨c0,c1,c2,z0,z1,z2⟩:=Q0K hR
 have HR:Hid (w.heap[R]? = some (rdr b k 0)):=hR
 clear hR
 have ht:(k+n).toNat=k.toNat+n.toNat:=by omega
 go_enter Tryz.func147,Tryz.ntmps147
 go_wp2_with fail
 go_quiet ((go_at_call 175; exact Calls.quiet_of_same (Q2H _ _ _ _ (big hb) (by omega) (by omega) (by omega))))
 go_wp2_with fail
 go_ret
 exact ⟨rfl,Qdv (k:=k) HR.out _,Qp (Q40 _ _ _) (Ql _ _ _ _)⟩
set_option maxHeartbeats 400000 in
theorem Q3Z (R:Nat) (b:ByteArray) (k n:Int) (w:World) (hb:b.size≤65535) (hR:w.heap[R]? = some (rdr b k 0)) (h1:0≤k) (h2:0≤n) (h3:(b.size:Int) < k+n) (h4:k≤4294967296) :
  Calls Tryz.prog 147 #[.pointer (some ⟨R,0,none⟩),.int .i64 n] w fun e w'=>e=.returned (.string ⟨#[]⟩)∧w'.heap[R]? = some (rdr b k 2)∧w.grownBy w' (some R):=by
 obtain ⟨c0,c1,c2,z0,z1,z2⟩:=Q0K hR
 have HR:Hid (w.heap[R]? = some (rdr b k 0)):=hR
 clear hR
 go_enter Tryz.func147,Tryz.ntmps147
 go_wp2_with fail
 go_quiet ((go_at_call 175; exact Calls.quiet_of_same (Q9H _ _ _ _ (big hb) (by omega) (by omega) (by omega) (by omega))))
 go_wp2_with fail
 go_ret
 exact ⟨rfl,Q7T HR.out _,Qp (Q40 _ _ _) (Ql _ _ _ _)⟩
set_option maxHeartbeats 400000 in
theorem Q67 (R:Nat) (b:ByteArray) (k f n:Int) (w:World) (hR:w.heap[R]? = some (rdr b k f)) (hf:f≠0) :
  Calls Tryz.prog 112 #[.pointer (some ⟨R,0,none⟩),.int .i64 n] w fun e w'=>e=.returned (.int .i64 0)∧w'=w:=by
 go_enter Tryz.func112,Tryz.ntmps112
 go_wp2_with fail
 refine (Q3K R b k f n _ hR hf).mono ?_
 rintro e w' ⟨rfl,rfl⟩
 clear hR hf
 go_wp2_with fail
 refine wp_loop_rounds 1 ?_; rw [rounds_succ]
 go_wp2_with fail
 go_ret
 exact ⟨rfl,rfl⟩
set_option maxHeartbeats 400000 in
theorem Q5y (R:Nat) (b:ByteArray) (k n:Int) (w:World) (hb:b.size≤65535) (hR:w.heap[R]? = some (rdr b k 0)) (h1:0≤k) (h2:0≤n) (h3:(b.size:Int) < k+n) (h4:k≤4294967296) :
  Calls Tryz.prog 112 #[.pointer (some ⟨R,0,none⟩),.int .i64 n] w fun e w'=>e=.returned (.int .i64 0)∧w'.heap[R]? = some (rdr b k 2)∧w.grownBy w' (some R):=by
 go_enter Tryz.func112,Tryz.ntmps112
 go_wp2_with fail
 refine (Q3Z R b k n _ hb hR h1 h2 h3 h4).mono ?_
 rintro e w' ⟨rfl,hR',hg⟩
 have HR:=hR'
 clear hR hR'
 go_wp2_with fail
 refine wp_loop_rounds 1 ?_; rw [rounds_succ]
 go_wp2_with fail
 go_ret
 exact ⟨rfl,HR,hg⟩
set_option maxHeartbeats 400000 in
theorem Q53 (R:Nat) (b:ByteArray) (k n:Int) (w:World) (hb:b.size≤65535) (hR:w.heap[R]? = some (rdr b k 0)) (h1:0≤k) (h2:0≤n) (h3:k+n≤b.size) (h4:n≤4) :
  Calls Tryz.prog 112 #[.pointer (some ⟨R,0,none⟩),.int .i64 n] w fun e w'=>e=.returned (.int .i64 (num b k.toNat n.toNat))∧w'.heap[R]? = some (rdr b (k+n) 0)∧w.grownBy w' (some R):=by
 go_enter Tryz.func112,Tryz.ntmps112
 go_wp2_with fail
 refine (Q3s R b k n _ hb hR h1 h2 h3).mono ?_
 rintro e w' ⟨rfl,hR',hg⟩
 have hp:(b.extract k.toNat (k.toNat+n.toNat)).size=n.toNat:=by simp [ByteArray.size_extract]; omega
 have hn:∀ j,j≤n.toNat→num (b.extract k.toNat (k.toNat+n.toNat)) 0 j=num b k.toNat j:=Qd9 b k.toNat n.toNat (by omega)
 have Hn:=Qa hn
 clear hn hR
 have HR:=Qa hR'
 clear hR'
 generalize b.extract k.toNat (k.toNat+n.toNat)=part at *
 have HP:=Qa hp
 have hp4:part.size≤4:=by omega
 clear hp
 go_wp2_with fail
 go_loop [6,7] (fun v i=>∃ j:Nat,j≤part.size∧i=.int .i64 j∧v=.int .i64 (num part 0 j)) (fun _ i=>part.size - (intOf i).toNat)
 case atStart=>exact ⟨0,Nat.zero_le _,rfl,rfl⟩
 case round =>
  obtain ⟨j,hj,rfl,rfl⟩:=hrel
  have hl:=Q6A part 0 j (by omega)
  by_cases c:j < part.size
  ·have hb:=Q10 part j c
   have hb2:=Q20 part j
   go_wp2_with fail
   go_round
   case rel=>exact ⟨j+1,by omega,by go_num,by simp only [num]; rw [Nat.zero_add]; congr 1; omega⟩
   case measure=>simp [intOf]; omega
  ·have hj':j=part.size:=by omega
   have HJ:=Qa hj'
   clear hj'
   go_wp2_with fail
   go_ret
   exact ⟨by rw [Q6 HJ,Q6 HP,Q6 Hn _ (Nat.le_refl _)]; rfl,Q6 HR,hg⟩
set_option maxHeartbeats 400000 in
theorem Qbt (R:Nat) (b:ByteArray) (k f:Int) (w:World) (hR:w.heap[R]? = some (rdr b k f)) (hf:f≠0) :
  Calls Tryz.prog 176 #[.pointer (some ⟨R,0,none⟩)] w fun e w'=>e=.returned (.string ⟨#[]⟩)∧w'=w:=by
 obtain ⟨c0,c1,c2,z0,z1,z2⟩:=Q0K hR
 clear hR
 have hf':(f != 0)=true:=by rw [bne_iff_ne]; exact hf
 go_enter Tryz.func176,Tryz.ntmps176
 go_wp2_with fail
 go_ret
 exact ⟨rfl,rfl⟩
def QhE (R:Nat) (b:ByteArray) (k:Int) (w:World) (res:Except Int (ByteArray × Nat)) (e:Ending) (w':World):Prop :=
 match res with
 | .ok (s,t)=>e=.returned (.string s)∧w'.heap[R]? = some (rdr b (k+t) 0)∧w.grownBy w' (some R)
 | .error x=>x≠0∧e=.returned (.string ⟨#[]⟩)∧w'.heap[R]? = some (rdr b k x)∧w.grownBy w' (some R)
def Zr.Run.obj (r:Run):Obj:=.cells #[.string r.labels,.int .i64 r.next,.bool r.pointed,.int .i64 r.to,.int .i64 r.fail] 219 (0,0)
theorem Q6E {w:World} {P:Nat} {r:Run} (h:w.heap[P]? = some r.obj) :
  w.cell? ⟨P,0,none⟩=some (.string r.labels)∧w.cell? ⟨P,1,none⟩=some (.int .i64 r.next)∧w.cell? ⟨P,2,none⟩=some (.bool r.pointed)∧w.cell? ⟨P,3,none⟩=some (.int .i64 r.to)∧w.cell? ⟨P,4,none⟩=some (.int .i64 r.fail) ∧
  w.frozen? ⟨P,0,none⟩=false∧w.frozen? ⟨P,1,none⟩=false∧w.frozen? ⟨P,2,none⟩=false∧w.frozen? ⟨P,3,none⟩=false∧w.frozen? ⟨P,4,none⟩=false:=by
 unfold Run.obj at h
 refine ⟨?_,?_,?_,?_,?_,Qd h _,Qd h _,Qd h _,Qd h _,Qd h _⟩ <;> (rw [Qc h]; rfl)
theorem QbG {w:World} {P:Nat} {x0 x1 x2 x3 x4:Value} (h:w.heap[P]? = some (.cells #[x0,x1,x2,x3,x4] 219 (0,0))) (r:Run) :
  (((((w.setCell ⟨P,0,none⟩ (.string r.labels)).setCell ⟨P,1,none⟩ (.int .i64 r.next)).setCell ⟨P,2,none⟩ (.bool r.pointed)).setCell ⟨P,3,none⟩ (.int .i64 r.to)).setCell ⟨P,4,none⟩ (.int .i64 r.fail)).heap[P]? = some r.obj:=by
 rw [Qo (Qo (Qo (Qo (Qo h _ _) _ _) _ _) _ _) _ _]; rfl
theorem Q9r {B:Nat} {a w:World} {P:Nat} (h:Below B a w) (hP:B≤P) (v0 v1 v2 v3 v4:Value) :
  Below B a (((((w.setCell ⟨P,0,none⟩ v0).setCell ⟨P,1,none⟩ v1).setCell ⟨P,2,none⟩ v2).setCell ⟨P,3,none⟩ v3).setCell ⟨P,4,none⟩ v4) :=
 ((((h.setCell hP _).setCell hP _).setCell hP _).setCell hP _).setCell hP _
set_option maxHeartbeats 2000000 in
theorem Qd4 (R:Nat) (b:ByteArray) (k:Int) (w:World) (hb:b.size≤281474976710656) (hR:w.heap[R]? = some (rdr b k 0)) (h1:0≤k) (h2:k≤b.size) :
  Calls Tryz.prog 176 #[.pointer (some ⟨R,0,none⟩)] w fun e w'=>QhE R b k w (Q05 b k.toNat) e w':=by
 obtain ⟨c0,c1,c2,z0,z1,z2⟩:=Q0K hR
 have HR:=Qa hR
 have hRl:=Qb hR
 clear hR
 have n0:=World.new_ne w ⟨R,0,none⟩ c0
 have n1:=World.new_ne w ⟨R,1,none⟩ c1
 obtain ⟨r,hr⟩:∃ r,Q15 b k.toNat 254=r:=⟨_,rfl⟩
 have Hr:=Qa hr
 clear hr
 generalize hres:Q05 b k.toNat=res
 have Hn:=Qa hres
 clear hres
 go_enter Tryz.func176,Tryz.ntmps176
 go_wp2_with fail
 go_cut [3] (fun p w'=>∃ P,p=.pointer (some ⟨P,0,none⟩)∧w.heap.size≤P∧w'.heap[P]? = some r.obj∧Below w.heap.size w w')
 case first =>
  go_region_held3 (fun w'=>w'.cell? ⟨R,0,none⟩=some (.string b)∧w'.cell? ⟨R,1,none⟩=some (.int .i64 k)) (go_keep)
   (first | (go_at_call 190; refine (Q7d _ _ _ _ r Hr hb (by omega) (by omega)).mono ?_; rintro e w1 ⟨rfl,hb1⟩; obtain ⟨hc1,hf1⟩:=Ql3 hb1; have k0:w1.cell? ⟨R,0,none⟩=some (.string b):=(by first | exact (hb1.cell (p:=⟨R,0,none⟩) hRl).trans c0 | exact (hb1.cell (p:=⟨R,0,none⟩) (by simp; omega)).trans (by simp [World.cell?_alloc_some,c0])); have k1:w1.cell? ⟨R,1,none⟩=some (.int .i64 k):=(by first | exact (hb1.cell (p:=⟨R,1,none⟩) hRl).trans c1 | exact (hb1.cell (p:=⟨R,1,none⟩) (by simp; omega)).trans (by simp [World.cell?_alloc_some,c1]))))
  all_goals go_wp2_with fail
  all_goals go_meet
  ·have hb2:=Q0x hb1
   exact ⟨_,rfl,hb2.size,heap_alloc_new _ _,Below.alloc hb2 hb2.size _⟩
  ·have hb2:=Q0x hb1
   refine ⟨_,rfl,Nat.le_refl _,?_,?_⟩
   ·refine QbG ((hb2.block w.heap.size (by simp)).trans (heap_alloc_new _ _)) r
   ·exact Q9r (((Below.refl _ _).alloc (Nat.le_refl _) _).trans (hb2.mono (by simp))) (Nat.le_refl _) _ _ _ _ _
 case rest =>
  obtain ⟨P,rfl,hP,hPo,hbw⟩:=hcut
  obtain ⟨hf0,hf1,hf2,hf3⟩:=Q9U b k.toNat
  rw [Q6 Hr] at hf0 hf1 hf2 hf3
  have HB:Hid (∀ x,Q48 b r.labels r=x→res=match x with
   | .ok s=>.ok (s,(r.next - k.toNat).toNat)
   | .error e=>.error e):=fun x hx=>by rw [←Q6 Hn,hf3,hx]; cases x <;> rfl
  have H1:=Qa hf1
  have H2:=Qa hf2
  clear hf1 hf2 hf3 Hn Hr
  obtain ⟨p0,p1,p2,p3,p4,y0,y1,y2,y3,y4⟩:=Q6E hPo
  have HP:=Qa hPo
  clear hPo
  go_wp2_with fail
  clear p0 p1 p2 p3 p4 y0 y1 y2 y3 y4 n0 n1
  go_loopg [5] (if r.pointed then r.to.toNat+1 else 0) (fun g l w'=>∃ (L:ByteArray) (q:Run),l=.string L∧Hid (w'.heap[P]? = some q.obj)∧Below w.heap.size w w'∧Hid (Q48 b L q=Q48 b r.labels r)∧L.size≤254∧Hid (q.pointed=true→0≤q.to∧q.to < 281474976710657∧q.fail=0∧q.to.toNat < g))
  case atStart=>exact ⟨r.labels,r,rfl,HP,hbw,rfl,hf0,fun h=>⟨(Q6 H2 h).1,by have:=(Q6 H2 h).2.1; omega,(Q6 H2 h).2.2,by rw [if_pos h]; omega⟩⟩
  case round =>
   obtain ⟨L,q,rfl,hq,hbq,HBq,hL,HQ⟩:=hrel
   obtain ⟨p0,p1,p2,p3,p4,y0,y1,y2,y3,y4⟩:=Q6E (Q6 hq)
   have q0:=(hbq.cell (p:=⟨R,0,none⟩) hRl).trans c0
   cases hpt:q.pointed with
   | true =>
    obtain ⟨g1,g2,g3,g4⟩:=Q6 HQ hpt
    obtain ⟨s1,s2,s3⟩:=QcG b L q hpt hL
    obtain ⟨r',hr'⟩:∃ r',Q15 b q.to.toNat (254 - (L.size:Int))=r':=⟨_,rfl⟩
    rw [hr'] at s1 s2 s3
    have Hr':Hid (Q15 b q.to.toNat (IntKind.i64.wrap (254 - (L.size:Int)))=r'):=by
     show _=_
     rw [IntWalk.i64_in _ (by omega)]; exact hr'
    have S1:=Qa s1
    have S3:=Qa s3
    have Hpt:=Qa hpt
    have G3:=Qa g3
    rw [hpt] at p2
    clear hr' s1 s3 hpt g3
    go_wp2_with fail
    go_cut [5] (fun l w'=>l=.string L∧w'.heap[P]? = some r'.obj∧Below w.heap.size w w')
    case first =>
     go_region_with (first | (go_at_call 190; refine (Q7d _ _ _ _ r' Hr' hb (by omega) (by omega)).mono ?_; rintro e w1 ⟨rfl,hb1⟩; obtain ⟨e0,e1,e2,e3,e4,f0,f1,f2,f3,f4⟩:=Q6E ((hb1.block P (Qb (Q6 hq))).trans (Q6 hq))))
     all_goals go_wp2_with fail
     all_goals go_meet
     all_goals
      have hb2:=Q0x hb1
      exact ⟨rfl,QbG ((hb2.block P (Qb (Q6 hq))).trans (Q6 hq)) r',Q9r (hbq.trans (hb2.mono hbq.size)) hP _ _ _ _ _⟩
    case rest =>
     obtain ⟨rfl,hq2,hb3⟩:=hcut
     clear p0 p1 p2 p3 p4 y0 y1 y2 y3 y4 q0 hq hbq
     obtain ⟨p0,p1,p2,p3,p4,y0,y1,y2,y3,y4⟩:=Q6E hq2
     have hq3:=Qa hq2
     clear hq2
     go_wp2_with fail
     go_roundg (q.to.toNat)
     case measure=>exact g4
     case rel =>
      exact ⟨L++r'.labels,r',rfl,hq3,hb3,by show _=_; rw [←Q6 S1]; exact Q6 HBq,by rw [ByteArray.size_append]; exact s2,fun h=>⟨((Q6 S3) h).1,by have:=((Q6 S3) h).2.1; omega,((Q6 S3) h).2.2,by have:=((Q6 S3) h).2.1; have:=((Q6 S3) h).1; omega⟩⟩
   | false =>
    rw [hpt] at p2
    have Hpt:=Qa hpt
    clear hpt
    by_cases hf:q.fail=0
    ·have hres:=Q6 HB _ ((Q6 HBq).symm.trans (Q6Y b L q (Q6 Hpt) hf))
     simp only at hres
     have hrf:r.fail=0:=by
      by_cases hc:r.fail=0
      ·exact hc
      ·have hp:r.pointed=false:=by
        cases hp:r.pointed with
        | false=>rfl
        | true=>exact absurd (Q6 H2 hp).2.2 hc
       have h1:=(Q5V b r.labels r hp hc).symm.trans ((Q6 HBq).symm.trans (Q6Y b L q (Q6 Hpt) hf))
       cases h1
     have hnx:=(Q6 H1 hrf).1
     subst hres
     rw [hf] at p4
     clear hf hrf
     obtain ⟨c1',c2'⟩:wr.cell? ⟨R,1,none⟩=some (.int .i64 k)∧wr.frozen? ⟨R,1,none⟩=false:=⟨(hbq.cell (p:=⟨R,1,none⟩) hRl).trans c1,(hbq.frozen (p:=⟨R,1,none⟩) hRl).trans z1⟩
     go_wp2_with fail
     go_ret
     refine ⟨rfl,?_,?_⟩
     ·have h:=Qdv ((hbq.block R hRl).trans (Q6 HR)) r.next
      rw [h]
      congr 2
      omega
     ·exact Qp (Q1l hbq) (Ql _ _ _ _)
    ·have hres:=Q6 HB _ ((Q6 HBq).symm.trans (Q5V b L q (Q6 Hpt) hf))
     simp only at hres
     subst hres
     have hf':(q.fail != 0)=true:=by rw [bne_iff_ne]; exact hf
     have Hf:=Qa hf
     clear hf
     obtain ⟨c1',c2'⟩:wr.cell? ⟨R,2,none⟩=some (.int .i64 0)∧wr.frozen? ⟨R,2,none⟩=false:=⟨(hbq.cell (p:=⟨R,2,none⟩) hRl).trans c2,(hbq.frozen (p:=⟨R,2,none⟩) hRl).trans z2⟩
     go_wp2_with fail
     go_ret
     refine ⟨Q6 Hf,rfl,?_,?_⟩
     ·exact Q7T ((hbq.block R hRl).trans (Q6 HR)) q.fail
     ·exact Qp (Q1l hbq) (Ql _ _ _ _)
theorem Q9f (R:Nat) (b:ByteArray) (k:Int) (w:World) (hb:b.size≤281474976710656) (hR:w.heap[R]? = some (rdr b k 0)) (h1:0≤k) (h2:k≤b.size) (s:ByteArray) (t:Nat) (hn:Hid (Q05 b k.toNat=.ok (s,t))) :
  Calls Tryz.prog 176 #[.pointer (some ⟨R,0,none⟩)] w fun e w'=>e=.returned (.string s)∧w'.heap[R]? = some (rdr b (k+t) 0)∧w.grownBy w' (some R):=by
 refine (Qd4 R b k w hb hR h1 h2).mono ?_
 rw [hn.out]
 exact fun _ _ h=>h
theorem Q9T (R:Nat) (b:ByteArray) (k:Int) (w:World) (hb:b.size≤281474976710656) (hR:w.heap[R]? = some (rdr b k 0)) (h1:0≤k) (h2:k≤b.size) (x:Int) (hn:Hid (Q05 b k.toNat=.error x)) :
  Calls Tryz.prog 176 #[.pointer (some ⟨R,0,none⟩)] w fun e w'=>x≠0∧e=.returned (.string ⟨#[]⟩)∧w'.heap[R]? = some (rdr b k x)∧w.grownBy w' (some R):=by
 refine (Qd4 R b k w hb hR h1 h2).mono ?_
 rw [hn.out]
 exact fun _ _ h=>h
theorem Q1k {B:Nat} {a w w':World} {R:Nat} (h:Below B a w) (hg:w.grownBy w' (some R)) (hB:B≤w.heap.size) (hr:B≤R):Below B a w' :=
 Below.grown h hg hB (fun k hk=>by cases hk; exact hr)
set_option maxHeartbeats 1000000 in
theorem Qbn (s:ByteArray) (a wd:Int) (w:World) (hb:s.size≤65535) (ha:0≤a) (ha2:a≤2) (hw:1≤wd) (hw2:wd≤2) :
  Calls Tryz.prog 207 #[.string s,.int .i64 a,.int .i64 wd] w fun e w'=>e=.returned (.bool (Q2Q s a.toNat wd.toNat))∧Below w.heap.size w w':=by
 obtain ⟨a,rfl⟩:=Int.eq_ofNat_of_zero_le ha
 obtain ⟨wd,rfl⟩:=Int.eq_ofNat_of_zero_le (show 0≤wd by omega)
 rw [Int.toNat_natCast,Int.toNat_natCast]
 generalize hR:w.heap.size=R
 go_enter Tryz.func207,Tryz.ntmps207
 go_wp2_with fail
 have h0:(w.alloc (.cells #[.string s,.int .i64 0,.int .i64 0] 122)).heap[R]? = some (rdr s 0 0):=by rw [←hR]; exact heap_alloc_new _ _
 have h0':Below R w (w.alloc (.cells #[.string s,.int .i64 0,.int .i64 0] 122)):=(Below.refl _ _).alloc (Nat.le_of_eq hR.symm) _
 generalize w.alloc (.cells #[.string s,.int .i64 0,.int .i64 0] 122)=w0 at *
 have hRw:R≤w0.heap.size:=Nat.le_of_lt (Qb h0)
 have H0:=Qa h0
 clear h0 hRw
 go_loopg [] (s.size+1) (fun g w'=>∃ (k:Nat) (f:Int),Hid (w'.heap[R]? = some (rdr s k f))∧Below R w w'∧k≤s.size∧((Hid (f=0)∧s.size < k+g∧∃ n,s.size < k+n∧Hid (Q2Q s a wd=Q56 s a wd n k))∨(Hid (f≠0)∧Hid (Q2Q s a wd=false))))
 case atStart=>exact ⟨0,0,H0,h0',Nat.zero_le _,.inl ⟨rfl,by omega,s.size+1,by omega,rfl⟩⟩
 case round =>
  obtain ⟨k,f,hk,hbw,hks,hcase⟩:=hrel
  have hRl:=Qb (Q6 hk)
  obtain ⟨c0,c1,c2,z0,z1,z2⟩:=Q0K (Q6 hk)
  rcases hcase with ⟨hf,hg,n,hn,hrow⟩ | ⟨hf,hrow⟩
  ·have hf0:=Q6 hf
   subst hf0
   by_cases ck:s.size≤k
   ·have hk':¬ ((k:Int) < s.size):=by omega
    have hv:Q2Q s a wd=true:=by
     rw [Q6 hrow]
     cases n with
     | zero=>rfl
     | succ n=>simp only [Q56]; rw [if_pos ck]
    have HV:=Qa hv
    clear hv
    go_wp2_with fail
    go_ret
    exact ⟨by rw [Q6 HV]; rfl,hbw⟩
   ·obtain ⟨n,rfl⟩:∃ m,n=m+1:=⟨n - 1,by omega⟩
    have hrow':=Q6 hrow
    simp only [Q56,if_neg ck] at hrow'
    clear hrow
    by_cases cA:s.size < k+a
    ·rw [if_pos cA] at hrow'
     have HV:=Qa hrow'
     clear hrow'
     go_wp2_with fail
     refine (Q3Z R s k a _ hb (Q6 hk) (by omega) (by omega) (by omega) (by omega)).mono ?_
     rintro e w1 ⟨rfl,hR1,hg1⟩
     go_wp2_with fail
     refine (Q67 R s k 2 wd _ hR1 (by decide)).mono ?_
     rintro e w2 ⟨rfl,rfl⟩
     go_wp2_with fail
     refine (Q3K R s k 2 0 _ hR1 (by decide)).mono ?_
     rintro e w2 ⟨rfl,rfl⟩
     go_wp2_with fail
     go_roundg 0
     case measure=>omega
     case rel=>exact ⟨k,2,hR1,Q1k hbw hg1 (by omega) (Nat.le_refl _),hks,.inr ⟨by show (2:Int)≠0; decide,HV⟩⟩
    ·rw [if_neg cA] at hrow'
     by_cases cB:s.size < k+a+wd
     ·rw [if_pos cB] at hrow'
      have HV:=Qa hrow'
      clear hrow'
      go_wp2_with fail
      refine (Q3s R s k a _ hb (Q6 hk) (by omega) (by omega) (by omega)).mono ?_
      rintro e w1 ⟨rfl,hR1,hg1⟩
      go_wp2_with fail
      refine (Q5y R s (k+a) wd _ hb hR1 (by omega) (by omega) (by omega) (by omega)).mono ?_
      rintro e w2 ⟨rfl,hR2,hg2⟩
      go_wp2_with fail
      refine (Q3K R s (k+a) 2 0 _ hR2 (by decide)).mono ?_
      rintro e w3 ⟨rfl,rfl⟩
      go_wp2_with fail
      go_roundg 0
      case measure=>omega
      case rel=>exact ⟨k+a,2,hR2,Q1k hbw (Qp hg1 hg2) (by omega) (Nat.le_refl _),by omega,.inr ⟨by show (2:Int)≠0; decide,HV⟩⟩
     ·rw [if_neg cB] at hrow'
      have hlt:=Q6A s (k+a) wd (by omega)
      have htn:((k:Int)+a).toNat=k+a:=by omega
      by_cases cC:s.size < k+a+wd+num s (k+a) wd
      ·rw [if_pos cC] at hrow'
       have HV:=Qa hrow'
       clear hrow'
       go_wp2_with fail
       refine (Q3s R s k a _ hb (Q6 hk) (by omega) (by omega) (by omega)).mono ?_
       rintro e w1 ⟨rfl,hR1,hg1⟩
       go_wp2_with fail
       refine (Q53 R s (k+a) wd _ hb hR1 (by omega) (by omega) (by omega) (by omega)).mono ?_
       rw [htn,Int.toNat_natCast]
       rintro e w2 ⟨rfl,hR2,hg2⟩
       go_wp2_with fail
       refine (Q3Z R s (k+a+wd) (num s (k+a) wd) _ hb hR2 (by omega) (by omega) (by omega) (by omega)).mono ?_
       rintro e w3 ⟨rfl,hR3,hg3⟩
       go_wp2_with fail
       go_roundg 0
       case measure=>omega
       case rel=>exact ⟨k+a+wd,2,hR3,Q1k hbw (Qp (Qp hg1 hg2) hg3) (by omega) (Nat.le_refl _),by omega,.inr ⟨by show (2:Int)≠0; decide,HV⟩⟩
      ·rw [if_neg cC] at hrow'
       have HV:=Qa hrow'
       clear hrow'
       go_wp2_with fail
       refine (Q3s R s k a _ hb (Q6 hk) (by omega) (by omega) (by omega)).mono ?_
       rintro e w1 ⟨rfl,hR1,hg1⟩
       go_wp2_with fail
       refine (Q53 R s (k+a) wd _ hb hR1 (by omega) (by omega) (by omega) (by omega)).mono ?_
       rw [htn,Int.toNat_natCast]
       rintro e w2 ⟨rfl,hR2,hg2⟩
       go_wp2_with fail
       refine (Q3s R s (k+a+wd) (num s (k+a) wd) _ hb hR2 (by omega) (by omega) (by omega)).mono ?_
       rintro e w3 ⟨rfl,hR3,hg3⟩
       go_wp2_with fail
       go_roundg (gk - 1)
       case measure=>omega
       case rel=>exact ⟨k+a+wd+num s (k+a) wd,0,hR3,Q1k hbw (Qp (Qp hg1 hg2) hg3) (by omega) (Nat.le_refl _),by omega,.inl ⟨rfl,by omega,n,by omega,HV⟩⟩
  ·have hf0:(f == 0)=false:=beq_eq_false_iff_ne.2 (Q6 hf)
   go_wp2_with fail
   go_ret
   exact ⟨by rw [Q6 hrow]; rfl,hbw⟩
set_option maxHeartbeats 400000 in
theorem QaS (s:ByteArray) (w:World) (hb:s.size≤65535) :
  Calls Tryz.prog 206 #[.string s] w fun e w'=>e=.returned (.bool (Qav s))∧Below w.heap.size w w':=by
 obtain ⟨r,hr⟩:∃ r,Q15 s 6 254=r:=⟨_,rfl⟩
 have HS:Hid (Qav s=(r.fail == 0 && !r.pointed && r.next == s.size)):=by show _=_; unfold Qav; rw [hr]
 have Hr:=Qa hr
 clear hr
 go_enter Tryz.func206,Tryz.ntmps206
 go_wp2_with fail
 refine (Q7d s 6 254 _ r Hr (big hb) (by omega) (by omega)).mono ?_
 rintro e w1 ⟨rfl,hb1⟩
 go_wp2_with fail
 all_goals
  go_ret
  exact ⟨Q0B (by rw [Q6 HS]; simp [*]),Below.alloc hb1 hb1.size _⟩
end Go.Proofs.YtdhobdmhnocbgabGreatDoor
