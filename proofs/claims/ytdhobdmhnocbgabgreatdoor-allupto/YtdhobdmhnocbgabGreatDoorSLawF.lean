import Derived.Test.YtdhobdmhnocbgabGreatDoorSRefE
import Derived.Deep.Upon
import Derived.Deep.QuietTactic
import Derived.BigQuiet
namespace Go.Proofs.YtdhobdmhnocbgabGreatDoor
open Go.RowKit Zr
structure Grew (w w':World) (row:Option Nat):Prop where
 os:w'.os=w.os
 output:w'.output=w.output
 size:w.heap.size≤w'.heap.size
 block:∀ k,k < w.heap.size→some k≠row→w'.heap[k]? = w.heap[k]?
theorem Grew.refl (w:World) (row:Option Nat):Grew w w row:=⟨rfl,rfl,Nat.le_refl _,fun _ _ _=>rfl⟩
theorem Grew.of_below {w w':World} (h:Below w.heap.size w w'):Grew w w' none:=⟨h.os,h.output,h.size,fun k hk _=>h.block k hk⟩
theorem Grew.owns {w w':World} {row:Option Nat} {N:Nat} {e:TypeId} {size:Nat} {v:Value} {n:Nat} {xs:List Value} (hg:Grew w w' row) (h:w.ownsRow N e size v n xs) (hne:v.ownBlock=none∨v.ownBlock≠row):w'.ownsRow N e size v n xs:=by
 refine ⟨h.1,?_⟩
 rcases h.2 with hn | ⟨g,cap,cur,rfl,hb,hgg,rest⟩
 ·exact .inl hn
 ·refine .inr ⟨g,cap,cur,rfl,hb,?_,rest⟩
  rw [hg.block g (Qb hgg) (fun e=>by
   rcases hne with h1 | h1
   ·simp [Value.ownBlock] at h1
   ·exact h1 e)]
  exact hgg
theorem QbW {w:World} {N:Nat} {e:TypeId} {size:Nat} {a:Option Addr} {n c:Nat} {xs:List Value} (h:w.ownsRow N e size (.slice a n c) n xs):Came w size a ((a.map Addr.block).getD 0) 0 n c xs:=by
 rcases h.2 with ⟨h1,h2⟩ | ⟨g,cap,cur,h1,h2,h3,h4,h5,h6,h7⟩
 ·cases h1
  have hx:xs=[]:=List.eq_nil_of_length_eq_zero (by rw [h.1]; simp)
  subst hx
  exact ⟨Nat.le_refl _,fun h=>by omega,fun h=>by omega,by simp,fun j u hu=>by simp at hu,fun j hj=>by simp at hj⟩
 ·cases h1
  refine ⟨h4,fun _=>rfl,fun _=>Qb h3,h.1,fun j u hu=>?_,fun j hj=>?_⟩
  ·simp only [Option.map_some,Option.getD_some,Nat.zero_add]
   exact Q0v h j u hu
  ·simp only [Option.map_some,Option.getD_some,Nat.zero_add]
   have hlt:n * size+j < cur.size:=by
    rw [h6]
    have:(c - n) * size=c * size - n * size:=Nat.sub_mul _ _ _
    omega
   refine ⟨?_,Qd h3 _⟩
   rw [Qc h3]
   simp [hlt]
theorem Q8B {w wr:World} {N:Nat} {e:TypeId} {size:Nat} {a:Option Addr} {n c:Nat} {xs:List Value} {v:Value} {m r:Nat} {ks:List Value} (h:w.ownsRow N e size (.slice a n c) n xs) (hu:Upon w e size a ((a.map Addr.block).getD 0) 0 n c xs wr v m ks r) :
  wr.ownsRow N e size (.slice a n c) n xs∧Grew w wr (Value.slice a n c).ownBlock:=by
 have hk:=hu.kept
 have hr:=hu.rFit
 rcases h.2 with ⟨h1,h2⟩ | ⟨g,cap,cur,h1,h2,h3,h4,h5,h6,h7⟩
 ·cases h1
  refine ⟨⟨h.1,.inl ⟨rfl,rfl⟩⟩,hk.1,hk.2.1,hk.size,fun k hlt _=>hk.block hlt (fun p hp=>?_)⟩
  obtain ⟨j,hj,_⟩:=hp
  simp at hr
  omega
 ·cases h1
  simp only [Option.map_some,Option.getD_some,Nat.zero_add] at hk
  refine ⟨⟨h.1,.inr ?_⟩,hk.1,hk.2.1,hk.size,fun k hlt hne=>hk.block hlt (fun p hp=>?_)⟩
  ·have hb:=hk.2.2 g (Qb h3)
   rw [h3] at hb
   cases hw:wr.heap[g]? with
   | none=>rw [hw] at hb; simp at hb
   | some o =>
    rw [hw] at hb
    cases o with
    | cells c' t' fr' =>
     simp only at hb
     obtain ⟨rfl,rfl,hs,hc⟩:=hb
     refine ⟨g,c,c',rfl,h2,hw,h4,h5,by rw [hs,h6],?_⟩
     rw [←h7]
     apply List.ext_getElem?
     intro j
     by_cases hj:j < n * size
     ·rw [List.getElem?_take_of_lt hj,List.getElem?_take_of_lt hj]
      have:=hc j (fun ⟨i,_,he⟩=>by
       have:j=n * size+i:=by simpa using he
       omega)
      simpa using this
     ·rw [List.getElem?_eq_none (by simp; omega),List.getElem?_eq_none (by simp; omega)]
    | pending c' t'=>simp at hb
    | view a' t'=>simp at hb
    | number a' l'=>simp at hb
    | map es cl=>simp at hb
    | chan c' b' d' s' r' t'=>simp at hb
    | stringIter s' p'=>simp at hb
    | mapIter m' s' e' t'=>simp at hb
    | loop l'=>simp at hb
    | deferred d'=>simp at hb
    | coro p'=>simp at hb
    | finalizers f' r'=>simp at hb
  ·obtain ⟨j,_,rfl⟩:=hp
   intro e
   exact hne (by simp [Value.ownBlock]; exact e.symm)
set_option maxRecDepth 100000 in
set_option maxHeartbeats 1000000 in
theorem Q6X (a:Option Addr) (n c N:Nat) (xs:List Value) (w:World) (hown:w.ownsRow N 61 5 (.slice a n c) n xs) (hn:n≤65535) :
  Calls Tryz.prog 14 #[.slice a n c] w fun e w'=>e=.returned (.tuple #[])∧w'.ownsRow N 61 5 (.slice a n c) n xs∧Grew w w' (Value.slice a n c).ownBlock:=by
 obtain ⟨i0,hi,hz0,hz1,hz2⟩:=info_parts Tryz.info61
 have Hi:=Qa hi
 have Hz0:=Qa hz0
 have Hz1:=Qa hz1
 have Hz2:=Qa hz2
 clear hi hz0 hz1 hz2
 have hC:=Qa (QbW hown)
 have HO:=Qa hown
 clear hown
 go_enter Tryz.func14,Tryz.ntmps14
 go_wp2_with fail
 go_loopg [0,2] 10 (fun g v i w'=>∃ (j:Nat) (ks:List Value) (r:Nat),i=.int .i64 j∧j≤9∧g=10 - j∧Hid (Upon w 61 5 a ((a.map Addr.block).getD 0) 0 n c xs w' v j ks r))
 case atStart=>exact ⟨0,[],0,rfl,by omega,rfl,Upon.start (Q6 hC)⟩
 case round =>
  obtain ⟨j,ks,r,rfl,hj,hg,hU⟩:=hrel
  by_cases cj:j < 9
  ·go_wp2_with (at_builtin; refine wpList_append_upon _ rfl _ _ 27 27 rfl (Q6 hC) i0 (.agg #[.string ⟨#[]⟩,.int .i64 0,.int .i64 0,.int .i64 0,.string ⟨#[]⟩]) 56 Tryz.underlying27 (Q6 Hi) (Q6 Hz0) (Q6 Hz1) (Q6 Hz2) rfl (by rfl) ((Q6 hU).alloc (Q6 hC) _) (.slice (some ⟨wr.heap.size,0,none⟩) 1 1) 1 [.string ⟨#[]⟩,.int .i64 77,.int .i64 0,.int .i64 0,.string ⟨#[]⟩] (by rfl) (Src.ofSlice _ Tryz.underlying27 ⟨wr.heap.size,0,none⟩ 1 1 _ rfl (Q0E _ _ _ _ _ _ _ _ rfl) (fun x hx=>by simp at hx; rcases hx with rfl | rfl | rfl | rfl | rfl <;> rfl)) (by unfold maxLen; omega) (by omega) ?_; intro v3 w3 hU3)
   go_roundg (10 - (j+1))
   case measure=>omega
   case rel=>exact ⟨j+1,_,_,by go_num,by omega,rfl,hU3⟩
  ·go_wp2_with fail
   go_end0
   exact ⟨rfl,Q8B (Q6 HO) (Q6 hU)⟩
def Marked (w:World) (e:TypeId) (size:Nat) (a:Option Addr) (n c:Nat) (mark:Int):Prop :=
 n=0∨∃ g cur,a=some ⟨g,0,none⟩∧w.heap[g]? = some (.cells cur e (0,0))∧cur.size=c * size∧n≤c∧∀ k,k < n→cur[k * size+1]? = some (.int .i64 mark)
theorem Marked.keep {w w':World} {e:TypeId} {size:Nat} {a:Option Addr} {n c:Nat} {mark:Int} {row:Option Nat} (h:Marked w e size a n c mark) (hg:Grew w w' row) (hne:(Value.slice a n c).ownBlock=none∨(Value.slice a n c).ownBlock≠row):Marked w' e size a n c mark:=by
 rcases h with h | ⟨g,cur,rfl,h2,h3⟩
 ·exact .inl h
 ·refine .inr ⟨g,cur,rfl,?_,h3⟩
  rw [hg.block g (Qb h2) (fun e=>by
   rcases hne with h1 | h1
   ·simp [Value.ownBlock] at h1
   ·exact h1 e)]
  exact h2
theorem Grew.trans {a b c:World} {row:Option Nat} (h:Grew a b row) (k:Grew b c row):Grew a c row :=
 ⟨k.os.trans h.os,k.output.trans h.output,Nat.le_trans h.size k.size,fun i hi hr=>(k.block i (Nat.lt_of_lt_of_le hi h.size) hr).trans (h.block i hi hr)⟩
theorem Grew.set (w:World) (R o:Nat) (v:Value):Grew w (w.setCell ⟨R,o,none⟩ v) (some R) :=
 ⟨rfl,rfl,by rw [Q0l]; exact Nat.le_refl _,fun _ _ hk=>Qf (fun e=>hk (by rw [e])) _ _⟩
theorem Q2g {w:World} {g:Nat} {cur:Array Value} {e:TypeId} (h:w.heap[g]? = some (.cells cur e (0,0))) (j:Nat) (hj:j < cur.size):∃ v,w.cell? ⟨g,j,none⟩=some v:=⟨cur[j],by rw [Qc h]; simp [hj]⟩
theorem Qmr {w:World} {g:Nat} {cur:Array Value} {e:TypeId} (h:w.heap[g]? = some (.cells cur e (0,0))) (o:Nat) (v0 v1 v2 v3 v4:Value) :
  (((((w.setCell ⟨g,o,none⟩ v0).setCell ⟨g,o+1,none⟩ v1).setCell ⟨g,o+2,none⟩ v2).setCell ⟨g,o+3,none⟩ v3).setCell ⟨g,o+4,none⟩ v4).heap[g]? =
   some (.cells (((((cur.setIfInBounds o v0).setIfInBounds (o+1) v1).setIfInBounds (o+2) v2).setIfInBounds (o+3) v3).setIfInBounds (o+4) v4) e (0,0)):=by
 rw [Qo (Qo (Qo (Qo (Qo h _ _) _ _) _ _) _ _) _ _]
theorem QmK {w:World} {g:Nat} {cur:Array Value} {e:TypeId} (h:w.heap[g]? = some (.cells cur e (0,0))) (o:Nat) (v0 v1 v2:Value) :
  (((w.setCell ⟨g,o,none⟩ v0).setCell ⟨g,o+1,none⟩ v1).setCell ⟨g,o+2,none⟩ v2).heap[g]? =
   some (.cells (((cur.setIfInBounds o v0).setIfInBounds (o+1) v1).setIfInBounds (o+2) v2) e (0,0)):=by
 rw [Qo (Qo (Qo h _ _) _ _) _ _]
theorem Qmh (cur:Array Value) (o:Nat) (v0 v1 v2 v3 v4:Value) (i:Nat):(((((cur.setIfInBounds o v0).setIfInBounds (o+1) v1).setIfInBounds (o+2) v2).setIfInBounds (o+3) v3).setIfInBounds (o+4) v4)[i]? =
  if i=o+1∧i < cur.size then some v1 else if o≤i∧i < o+5 then (((((cur.setIfInBounds o v0).setIfInBounds (o+1) v1).setIfInBounds (o+2) v2).setIfInBounds (o+3) v3).setIfInBounds (o+4) v4)[i]? else cur[i]?:=by
 by_cases h1:i=o+1∧i < cur.size
 ·rw [if_pos h1]
  obtain ⟨rfl,h⟩:=h1
  simp [h]
 ·rw [if_neg h1]
  by_cases h2:o≤i∧i < o+5
  ·rw [if_pos h2]
  ·rw [if_neg h2]
   simp only [Array.getElem?_setIfInBounds]
   rw [if_neg (by omega),if_neg (by omega),if_neg (by omega),if_neg (by omega),if_neg (by omega)]
theorem Qmg (cur:Array Value) (o:Nat) (v0 v1 v2:Value) (i:Nat):(((cur.setIfInBounds o v0).setIfInBounds (o+1) v1).setIfInBounds (o+2) v2)[i]? =
  if i=o+1∧i < cur.size then some v1 else if o≤i∧i < o+3 then (((cur.setIfInBounds o v0).setIfInBounds (o+1) v1).setIfInBounds (o+2) v2)[i]? else cur[i]?:=by
 by_cases h1:i=o+1∧i < cur.size
 ·rw [if_pos h1]
  obtain ⟨rfl,h⟩:=h1
  simp [h]
 ·rw [if_neg h1]
  by_cases h2:o≤i∧i < o+3
  ·rw [if_pos h2]
  ·rw [if_neg h2]
   simp only [Array.getElem?_setIfInBounds]
   rw [if_neg (by omega),if_neg (by omega),if_neg (by omega)]
set_option maxRecDepth 100000 in
set_option maxHeartbeats 1000000 in
theorem QcR (a:Option Addr) (n c N:Nat) (xs:List Value) (mark:Int) (w:World) (hown:w.ownsRow N 61 5 (.slice a n c) n xs) (hn:n≤65535) :
  Calls Tryz.prog 15 #[.slice a n c,.int .i64 mark] w fun e w'=>e=.returned (.tuple #[])∧Marked w' 61 5 a n c mark∧Grew w w' (Value.slice a n c).ownBlock:=by
 rcases hown.2 with ⟨h1,h2⟩ | ⟨g,cap,cur0,h1,h2,h3,h4,h5,h6,h7⟩
 ·cases h1
  clear hown
  go_enter Tryz.func15,Tryz.ntmps15
  go_wp2_with fail
  refine wp_loop_rounds 1 ?_; rw [rounds_succ]
  go_wp2_with fail
  go_end0
  exact ⟨rfl,.inl rfl,Grew.refl _ _⟩
 ·cases h1
  have H3:=Qa h3
  unfold maxLen at h5
  have H6:=Qa h6
  have hsz:cur0.size=c * 5:=h6
  clear hown h3 h6 h7 hsz
  go_enter Tryz.func15,Tryz.ntmps15
  go_wp2_with fail
  go_loopg [4] (n+1) (fun gk i w'=>∃ (j:Nat) (cur:Array Value),i=.int .i64 j∧j≤n∧gk=n+1 - j∧Hid (w'.heap[g]? = some (.cells cur 61 (0,0)))∧Hid (cur.size=c * 5)∧Hid (∀ k,k < j→cur[k * 5+1]? = some (.int .i64 mark))∧Hid (Grew w w' (some g)))
  case atStart=>exact ⟨0,cur0,rfl,Nat.zero_le _,rfl,H3,H6,fun k hk=>by omega,Grew.refl _ _⟩
  case round =>
   obtain ⟨j,cur,rfl,hj,hg,hB,hS,hm,hG⟩:=hrel
   by_cases cj:j < n
   ·have hs:=Q6 hS
    obtain ⟨z0,c0⟩:=Q2g (Q6 hB) (j * 5) (by omega)
    obtain ⟨z1,c1⟩:=Q2g (Q6 hB) (j * 5+1) (by omega)
    obtain ⟨z2,c2⟩:=Q2g (Q6 hB) (j * 5+2) (by omega)
    obtain ⟨z3,c3⟩:=Q2g (Q6 hB) (j * 5+3) (by omega)
    obtain ⟨z4,c4⟩:=Q2g (Q6 hB) (j * 5+4) (by omega)
    have f0:=Qd (Q6 hB) (j * 5)
    have f1:=Qd (Q6 hB) (j * 5+1)
    have f2:=Qd (Q6 hB) (j * 5+2)
    have f3:=Qd (Q6 hB) (j * 5+3)
    have f4:=Qd (Q6 hB) (j * 5+4)
    have hlt:=Qb (Q6 hB)
    clear hs
    go_wp2_with fail
    go_roundg (n+1 - (j+1))
    case measure=>omega
    case rel =>
     refine ⟨j+1,_,by go_num,by omega,rfl,Qmr (Q6 hB) (j * 5) _ _ _ _ _,?_,?_,?_⟩
     ·show _=_
      simp only [Array.size_setIfInBounds]; exact Q6 hS
     ·intro k hk
      have hs:=Q6 hS
      rw [Qmh]
      by_cases hkj:k=j
      ·subst hkj
       rw [if_pos ⟨rfl,by omega⟩]
      ·rw [if_neg (by omega),if_neg (by omega)]
       exact Q6 hm k (by omega)
     ·exact (((((Q6 hG).trans (Grew.set _ _ _ _)).trans (Grew.set _ _ _ _)).trans (Grew.set _ _ _ _)).trans (Grew.set _ _ _ _)).trans (Grew.set _ _ _ _)
   ·have hjn:j=n:=by omega
    subst hjn
    go_wp2_with fail
    go_end0
    exact ⟨rfl,.inr ⟨g,cur,rfl,Q6 hB,Q6 hS,h4,Q6 hm⟩,Q6 hG⟩
set_option maxRecDepth 100000 in
set_option maxHeartbeats 1000000 in
theorem Q8v (a:Option Addr) (n c:Nat) (mark:Int) (w:World) (hM:Marked w 61 5 a n c mark) (hn:n≤65535) :
  Calls Tryz.prog 47 #[.slice a n c,.int .i64 mark] w fun e w'=>e=.returned (.bool true)∧w'=w:=by
 rcases hM with h | ⟨g,cur,rfl,h2,h3,h4,h5⟩
 ·subst h
  go_enter Tryz.func47,Tryz.ntmps47
  go_wp2_with fail
  refine wp_loop_rounds 1 ?_; rw [rounds_succ]
  go_wp2_with fail
  go_ret
  exact ⟨rfl,rfl⟩
 ·have hcell:∀ k,k < n→w.cell? ⟨g,k * 5+1,none⟩=some (.int .i64 mark):=fun k hk=>by rw [Qc h2]; exact h5 k hk
  have HC:=Qa hcell
  clear hcell h2 h3 h5
  have hmm:(mark != mark)=false:=by simp
  go_enter Tryz.func47,Tryz.ntmps47
  go_wp2_with fail
  go_loop [5] (fun i=>∃ j:Nat,j≤n∧i=.int .i64 j) (fun i=>n - (intOf i).toNat)
  case atStart=>exact ⟨0,Nat.zero_le _,rfl⟩
  case round =>
   obtain ⟨j,hj,rfl⟩:=hrel
   by_cases cj:j < n
   ·have hc:=Q6 HC j cj
    go_wp2_with fail
    go_round
    case rel=>exact ⟨j+1,by omega,by go_num⟩
    case measure=>simp [intOf]; omega
   ·go_wp2_with fail
    go_ret
    exact ⟨rfl,rfl⟩
set_option maxRecDepth 100000 in
set_option maxHeartbeats 1000000 in
theorem Q7g (l:List Qs) (a a':Option Addr) (c c' N N':Nat) (w:World) (h1:w.ownsRow N 91 3 (.slice a l.length c) l.length (Q1M l)) (h2:w.ownsRow N' 91 3 (.slice a' l.length c') l.length (Q1M l)) (hn:l.length≤65535) :
  Calls Tryz.prog 46 #[.slice a l.length c,.slice a' l.length c'] w fun e w'=>e=.returned (.bool true)∧∃ n,w'=w.drewN n:=by
 have H1:=Qa h1
 have H2:=Qa h2
 clear h1 h2
 have hnn:((l.length:Int) != (l.length:Int))=false:=by simp
 go_enter Tryz.func46,Tryz.ntmps46
 go_wp2_with fail
 go_loopw [5] (fun i w'=>∃ j m:Nat,j≤l.length∧i=.int .i64 j∧w'=w.drewN m) (fun i _=>l.length - (intOf i).toNat)
 case atStart=>exact ⟨0,0,Nat.zero_le _,rfl,rfl⟩
 case round =>
  obtain ⟨j,m,hj,rfl,rfl⟩:=hrel
  by_cases cj:j < l.length
  ·obtain ⟨g,rfl,_,_,hc⟩:=Q23 (Q6 H1) (by omega)
   obtain ⟨g',rfl,_,_,hc'⟩:=Q23 (Q6 H2) (by omega)
   obtain ⟨q0,q1,q2⟩:=Qh6 l j cj
   have x0:=Q0v (Q6 H1) _ _ q0
   have x1:=Q0v (Q6 H1) _ _ q1
   have x2:=Q0v (Q6 H1) _ _ q2
   have y0:=Q0v (Q6 H2) _ _ q0
   have y1:=Q0v (Q6 H2) _ _ q1
   have y2:=Q0v (Q6 H2) _ _ q2
   clear q0 q1 q2
   generalize l[j].name=nm at *
   generalize l[j].ty=ty at *
   generalize l[j].cl=cl at *
   go_wp2_with fail
   go_quiet (fail)
   go_wp2_with fail
   exact ⟨⟨j+1,m+nq,by omega,by go_num,rfl⟩,by simp [intOf]; omega⟩
  ·go_wp2_with fail
   go_ret
   exact ⟨rfl,m,rfl⟩
set_option maxRecDepth 100000 in
set_option maxHeartbeats 1000000 in
theorem Q3R (l:List Rc) (a a':Option Addr) (c c' N N':Nat) (w:World) (h1:w.ownsRow N 61 5 (.slice a l.length c) l.length (Q0e l)) (h2:w.ownsRow N' 61 5 (.slice a' l.length c') l.length (Q0e l)) (hn:l.length≤65535) :
  Calls Tryz.prog 8 #[.slice a l.length c,.slice a' l.length c'] w fun e w'=>e=.returned (.bool true)∧∃ n,w'=w.drewN n:=by
 have H1:=Qa h1
 have H2:=Qa h2
 clear h1 h2
 have hnn:((l.length:Int) != (l.length:Int))=false:=by simp
 go_enter Tryz.func8,Tryz.ntmps8
 go_wp2_with fail
 go_loopw [5] (fun i w'=>∃ j m:Nat,j≤l.length∧i=.int .i64 j∧w'=w.drewN m) (fun i _=>l.length - (intOf i).toNat)
 case atStart=>exact ⟨0,0,Nat.zero_le _,rfl,rfl⟩
 case round =>
  obtain ⟨j,m,hj,rfl,rfl⟩:=hrel
  by_cases cj:j < l.length
  ·obtain ⟨g,rfl,_,_,hc⟩:=Q23 (Q6 H1) (by omega)
   obtain ⟨g',rfl,_,_,hc'⟩:=Q23 (Q6 H2) (by omega)
   obtain ⟨q0,q1,q2,q3,q4⟩:=QbB l j cj
   have x0:=Q0v (Q6 H1) _ _ q0
   have x1:=Q0v (Q6 H1) _ _ q1
   have x2:=Q0v (Q6 H1) _ _ q2
   have x3:=Q0v (Q6 H1) _ _ q3
   have x4:=Q0v (Q6 H1) _ _ q4
   have y0:=Q0v (Q6 H2) _ _ q0
   have y1:=Q0v (Q6 H2) _ _ q1
   have y2:=Q0v (Q6 H2) _ _ q2
   have y3:=Q0v (Q6 H2) _ _ q3
   have y4:=Q0v (Q6 H2) _ _ q4
   clear q0 q1 q2 q3 q4
   generalize l[j].name=nm at *
   generalize l[j].ty=ty at *
   generalize l[j].cl=cl at *
   generalize l[j].ttl=tl at *
   generalize l[j].data=dt at *
   go_wp2_with fail
   go_quiet (fail)
   go_wp2_with fail
   exact ⟨⟨j+1,m+nq,by omega,by go_num,rfl⟩,by simp [intOf]; omega⟩
  ·go_wp2_with fail
   go_ret
   exact ⟨rfl,m,rfl⟩
def Qcv (m:Msg):Prop:=m.q.length≤65535∧m.a.length≤65535∧m.u.length≤65535∧m.x.length≤65535
theorem Q3q {B:Nat} {a w:World} (h:Below B a w) (n:Nat):Below B a (w.drewN n):=⟨h.os,h.tape,h.output,h.size,h.block⟩
theorem Q2N {w:World} {N:Nat} {e:TypeId} {size:Nat} {v:Value} {n:Nat} {xs:List Value} (h:w.ownsRow N e size v n xs) (k:Nat):(w.drewN k).ownsRow N e size v n xs:=h
set_option maxRecDepth 100000 in
set_option maxHeartbeats 1000000 in
theorem Q57 (m:Msg) (v v':Value) (N N':Nat) (w:World) (h1:MsgIs w N v m) (h2:MsgIs w N' v' m) (hs:Qcv m) :
  Calls Tryz.prog 21 #[v,v'] w fun e w'=>e=.returned (.bool true)∧Below w.heap.size w w':=by
 obtain ⟨a1,c1,a2,c2,a3,c3,a4,c4,rfl,o1,o2,o3,o4,_⟩:=h1
 obtain ⟨b1,d1,b2,d2,b3,d3,b4,d4,rfl,r1,r2,r3,r4,_⟩:=h2
 obtain ⟨s1,s2,s3,s4⟩:=hs
 obtain ⟨id,fl,q,a,u,x⟩:=m
 simp only at *
 have key1:=fun W (h:∃ A B n,W=((w.alloc A).alloc B).drewN n)=>Q7g q a1 b1 c1 d1 N N' W (by obtain ⟨A,B,n,rfl⟩:=h; exact Q2N ((o1.alloc _).alloc _) n) (by obtain ⟨A,B,n,rfl⟩:=h; exact Q2N ((r1.alloc _).alloc _) n) s1
 have key2:=fun W (h:∃ A B n,W=((w.alloc A).alloc B).drewN n)=>Q3R a a2 b2 c2 d2 N N' W (by obtain ⟨A,B,n,rfl⟩:=h; exact Q2N ((o2.alloc _).alloc _) n) (by obtain ⟨A,B,n,rfl⟩:=h; exact Q2N ((r2.alloc _).alloc _) n) s2
 have key3:=fun W (h:∃ A B n,W=((w.alloc A).alloc B).drewN n)=>Q3R u a3 b3 c3 d3 N N' W (by obtain ⟨A,B,n,rfl⟩:=h; exact Q2N ((o3.alloc _).alloc _) n) (by obtain ⟨A,B,n,rfl⟩:=h; exact Q2N ((r3.alloc _).alloc _) n) s3
 have key4:=fun W (h:∃ A B n,W=((w.alloc A).alloc B).drewN n)=>Q3R x a4 b4 c4 d4 N N' W (by obtain ⟨A,B,n,rfl⟩:=h; exact Q2N ((o4.alloc _).alloc _) n) (by obtain ⟨A,B,n,rfl⟩:=h; exact Q2N ((r4.alloc _).alloc _) n) s4
 have K1:=Qa key1
 have K2:=Qa key2
 have K3:=Qa key3
 have K4:=Qa key4
 clear key1 key2 key3 key4 o1 o2 o3 o4 r1 r2 r3 r4
 have hii:((id:Int) == (id:Int))=true:=by simp
 have hff:((fl:Int) == (fl:Int))=true:=by simp
 go_enter Tryz.func21,Tryz.ntmps21
 go_wp2_with fail
 refine (Q6 K1 _ ⟨_,_,0,rfl⟩).mono ?_
 rintro e w1 ⟨rfl,n1,rfl⟩
 go_wp2_with fail
 refine (Q6 K2 _ ⟨_,_,n1,rfl⟩).mono ?_
 rintro e w1 ⟨rfl,n2,rfl⟩
 go_wp2_with fail
 refine (Q6 K3 _ ⟨_,_,n1+n2,rfl⟩).mono ?_
 rintro e w1 ⟨rfl,n3,rfl⟩
 go_wp2_with fail
 refine (Q6 K4 _ ⟨_,_,n1+n2+n3,rfl⟩).mono ?_
 rintro e w1 ⟨rfl,n4,rfl⟩
 go_wp2_with fail
 go_ret
 exact ⟨rfl,Q3q (((Below.refl _ _).alloc (Nat.le_refl _) _).alloc (by simp) _) _⟩
structure GrewIn (w w':World) (B E:Nat):Prop where
 os:w'.os=w.os
 output:w'.output=w.output
 size:w.heap.size≤w'.heap.size
 block:∀ k,k < w.heap.size→(k < B∨E≤k)→w'.heap[k]? = w.heap[k]?
theorem GrewIn.refl (w:World) (B E:Nat):GrewIn w w B E:=⟨rfl,rfl,Nat.le_refl _,fun _ _ _=>rfl⟩
theorem GrewIn.trans {a b c:World} {B E:Nat} (h:GrewIn a b B E) (k:GrewIn b c B E):GrewIn a c B E :=
 ⟨k.os.trans h.os,k.output.trans h.output,Nat.le_trans h.size k.size,fun i hi hr=>(k.block i (Nat.lt_of_lt_of_le hi h.size) hr).trans (h.block i hi hr)⟩
theorem GrewIn.of_below {w w':World} {B E:Nat} (h:Below w.heap.size w w'):GrewIn w w' B E:=⟨h.os,h.output,h.size,fun k hk _=>h.block k hk⟩
theorem GrewIn.of_grew {w w':World} {B E:Nat} {row:Option Nat} (h:Grew w w' row) (hr:∀ g,row=some g→B≤g∧g < E):GrewIn w w' B E :=
 ⟨h.os,h.output,h.size,fun k hk hc=>h.block k hk (fun e=>by have:=hr k e.symm; omega)⟩
theorem GrewIn.blk {w w':World} {B E k:Nat} {o:Obj} (h:GrewIn w w' B E) (hk:w.heap[k]? = some o) (hc:k < B∨E≤k):w'.heap[k]? = some o:=(h.block k (Qb hk) hc).trans hk
theorem GrewIn.owns {w w':World} {B E N:Nat} {e:TypeId} {size:Nat} {v:Value} {n:Nat} {xs:List Value} (hg:GrewIn w w' B E) (h:w.ownsRow N e size v n xs) (hne:∀ g,v.ownBlock=some g→g < B∨E≤g):w'.ownsRow N e size v n xs:=by
 refine ⟨h.1,?_⟩
 rcases h.2 with hn | ⟨g,cap,cur,rfl,hb,hgg,rest⟩
 ·exact .inl hn
 ·exact .inr ⟨g,cap,cur,rfl,hb,hg.blk hgg (hne g rfl),rest⟩
theorem Q0H {u v:Value} (h:Apart u v):u.ownBlock=none∨u.ownBlock≠v.ownBlock:=by
 cases hu:u.ownBlock with
 | none=>exact .inl rfl
 | some g=>exact .inr (fun e=>h g hu e.symm)
theorem Q8M {w:World} {N E:Nat} {e:TypeId} {size:Nat} {v:Value} {n:Nat} {xs:List Value} (h:w.ownsRow N e size v n xs) (hu:Q8E v E):∀ g,v.ownBlock=some g→N≤g∧g < E:=fun g hg=>⟨(h.lt g hg).1,hu g hg⟩
set_option maxRecDepth 100000 in
set_option maxHeartbeats 1000000 in
theorem QaM (m:Msg) (v:Value) (B E:Nat) (w:World) (h:MsgIs w B v m) (hu:Q3X v E) (hs:Qcv m) (hE:E≤w.heap.size) :
  Calls Tryz.prog 22 #[v] w fun e w'=>e=.returned (.tuple #[])∧MsgIs w' B v m∧GrewIn w w' B E:=by
 obtain ⟨a1,c1,a2,c2,a3,c3,a4,c4,rfl,o1,o2,o3,o4,p12,p13,p14,p23,p24,p34⟩:=h
 obtain ⟨u1,u2,u3,u4⟩:=hu _ _ _ _ _ _ rfl
 obtain ⟨s1,s2,s3,s4⟩:=hs
 obtain ⟨i0,hi,hz0,hz1,hz2⟩:=info_parts Tryz.info91
 have Hi:=Qa hi
 have Hz0:=Qa hz0
 have Hz1:=Qa hz1
 have Hz2:=Qa hz2
 clear hi hz0 hz1 hz2
 obtain ⟨box,hbox⟩:∃ o:Obj,o=.cells #[.int .i64 m.id,.int .i64 m.flags,.slice a1 m.q.length c1,.slice a2 m.a.length c2,.slice a3 m.u.length c3,.slice a4 m.x.length c4] 32 (0,0):=⟨_,rfl⟩
 obtain ⟨w0,hw0⟩:∃ w0,w0=w.alloc box:=⟨_,rfl⟩
 have hb0:Below w.heap.size w w0:=by rw [hw0]; exact (Below.refl _ _).alloc (Nat.le_refl _) _
 have hB0:w0.heap[w.heap.size]? = some box:=by rw [hw0]; exact heap_alloc_new _ _
 have q1:=Qk o1 hb0
 have q2:=Qk o2 hb0
 have q3:=Qk o3 hb0
 have q4:=Qk o4 hb0
 have hC:=Qa (QbW q1)
 have Q1:=Qa q1
 have Q2:=Qa q2
 have Q3:=Qa q3
 have Q4:=Qa q4
 have I1:=Qa (Q8M o1 u1)
 have I2:=Qa (Q8M o2 u2)
 have I3:=Qa (Q8M o3 u3)
 have I4:=Qa (Q8M o4 u4)
 have P12:=Qa p12
 have P13:=Qa p13
 have P14:=Qa p14
 have P23:=Qa p23
 have P24:=Qa p24
 have P34:=Qa p34
 have HB0:=Qa hB0
 have Hb0:=Qa hb0
 clear o1 o2 o3 o4 u1 u2 u3 u4 hu p12 p13 p14 p23 p24 p34 q1 q2 q3 q4 hB0 hb0
 go_enter Tryz.func22,Tryz.ntmps22
 go_wp2_with fail
 rw [←hbox,←hw0]
 have HBX:=Qa hbox
 clear hbox hw0
 generalize hsz:w.heap.size=S at *
 go_loopg [2,3] 10 (fun g v i w'=>∃ (j:Nat) (ks:List Value) (r:Nat),i=.int .i64 j∧j≤9∧g=10 - j∧Hid (Upon w0 91 3 a1 ((a1.map Addr.block).getD 0) 0 m.q.length c1 (Q1M m.q) w' v j ks r))
 case atStart=>exact ⟨0,[],0,rfl,by omega,rfl,Upon.start (Q6 hC)⟩
 case round =>
  obtain ⟨j,ks,r,rfl,hj,hg,hU⟩:=hrel
  by_cases cj:j < 9
  ·go_wp2_with (at_builtin; refine wpList_append_upon _ rfl _ _ 30 30 rfl (Q6 hC) i0 (.agg #[.string ⟨#[]⟩,.int .i64 0,.int .i64 0]) 32 Tryz.underlying30 (Q6 Hi) (Q6 Hz0) (Q6 Hz1) (Q6 Hz2) rfl (by rfl) ((Q6 hU).alloc (Q6 hC) _) (.slice (some ⟨wr.heap.size,0,none⟩) 1 1) 1 [.string ⟨#[]⟩,.int .i64 77,.int .i64 0] (by rfl) (Src.ofSlice _ Tryz.underlying30 ⟨wr.heap.size,0,none⟩ 1 1 _ rfl (Q3t _ _ _ _ _ _ rfl) (fun x hx=>by simp at hx; rcases hx with rfl | rfl | rfl <;> rfl)) (by unfold maxLen; omega) (by omega) ?_; intro v3 w3 hU3)
   go_roundg (10 - (j+1))
   case measure=>omega
   case rel=>exact ⟨j+1,_,_,by go_num,by omega,rfl,hU3⟩
  ·obtain ⟨r1,hG1⟩:=Q8B (Q6 Q1) (Q6 hU)
   have hI1:=GrewIn.of_grew hG1 (Q6 I1)
   have r2:=hG1.owns (Q6 Q2) (Q0H (Q6 P12).symm)
   have r3:=hG1.owns (Q6 Q3) (Q0H (Q6 P13).symm)
   have r4:=hG1.owns (Q6 Q4) (Q0H (Q6 P14).symm)
   have hB1:=hI1.blk (Q6 HB0) (.inr hE)
   rw [Q6 HBX] at hB1
   obtain ⟨⟨x0,x1,x2,x3,x4,x5⟩,y0,y1,y2,y3,y4,y5⟩:=Qh hB1
   have R1:=Qa r1
   have R2:=Qa r2
   have R3:=Qa r3
   have R4:=Qa r4
   have HI1:=Qa hI1
   have HB1:=Qa hB1
   clear r1 r2 r3 r4 hI1 hB1 hG1 hU Q1 Q2 Q3 Q4 hC
   go_wp2_with fail
   refine (Q6X a2 m.a.length c2 B (Q0e m.a) _ (Q6 R2) s2).mono ?_
   rintro e w2 ⟨rfl,t2,hG2⟩
   have hI2:=GrewIn.of_grew hG2 (Q6 I2)
   have t1:=hG2.owns (Q6 R1) (Q0H (Q6 P12))
   have t3:=hG2.owns (Q6 R3) (Q0H (Q6 P23).symm)
   have t4:=hG2.owns (Q6 R4) (Q0H (Q6 P24).symm)
   have hB2:=hI2.blk (Q6 HB1) (.inr hE)
   clear x0 x1 x2 x3 x4 x5 y0 y1 y2 y3 y4 y5
   obtain ⟨⟨x0,x1,x2,x3,x4,x5⟩,y0,y1,y2,y3,y4,y5⟩:=Qh hB2
   have T1:=Qa t1
   have T2:=Qa t2
   have T3:=Qa t3
   have T4:=Qa t4
   have HI2:=Qa ((Q6 HI1).trans hI2)
   have HB2:=Qa hB2
   clear t1 t2 t3 t4 hI2 hB2 hG2 R1 R2 R3 R4 HI1 HB1
   go_wp2_with fail
   refine (Q6X a3 m.u.length c3 B (Q0e m.u) _ (Q6 T3) s3).mono ?_
   rintro e w3 ⟨rfl,t3,hG2⟩
   have hI2:=GrewIn.of_grew hG2 (Q6 I3)
   have t1:=hG2.owns (Q6 T1) (Q0H (Q6 P13))
   have t2:=hG2.owns (Q6 T2) (Q0H (Q6 P23))
   have t4:=hG2.owns (Q6 T4) (Q0H (Q6 P34).symm)
   have hB2:=hI2.blk (Q6 HB2) (.inr hE)
   clear x0 x1 x2 x3 x4 x5 y0 y1 y2 y3 y4 y5
   obtain ⟨⟨x0,x1,x2,x3,x4,x5⟩,y0,y1,y2,y3,y4,y5⟩:=Qh hB2
   have V1:=Qa t1
   have V2:=Qa t2
   have V3:=Qa t3
   have V4:=Qa t4
   have HI3:=Qa ((Q6 HI2).trans hI2)
   clear t1 t2 t3 t4 hI2 hB2 hG2 T1 T2 T3 T4 HI2 HB2
   go_wp2_with fail
   refine (Q6X a4 m.x.length c4 B (Q0e m.x) _ (Q6 V4) s4).mono ?_
   rintro e w4 ⟨rfl,t4,hG2⟩
   have hI2:=GrewIn.of_grew hG2 (Q6 I4)
   have t1:=hG2.owns (Q6 V1) (Q0H (Q6 P14))
   have t2:=hG2.owns (Q6 V2) (Q0H (Q6 P24))
   have t3:=hG2.owns (Q6 V3) (Q0H (Q6 P34))
   have hfin:=(GrewIn.of_below (B:=B) (E:=E) (by rw [hsz]; exact Q6 Hb0)).trans ((Q6 HI3).trans hI2)
   have HF:=Qa hfin
   have W1:=Qa t1
   have W2:=Qa t2
   have W3:=Qa t3
   have W4:=Qa t4
   clear x0 x1 x2 x3 x4 x5 y0 y1 y2 y3 y4 y5 t1 t2 t3 t4 hI2 hG2 V1 V2 V3 V4 HI3 hfin
   go_wp2_with fail
   go_end0
   exact ⟨rfl,⟨a1,c1,a2,c2,a3,c3,a4,c4,rfl,Q6 W1,Q6 W2,Q6 W3,Q6 W4,Q6 P12,Q6 P13,Q6 P14,Q6 P23,Q6 P24,Q6 P34⟩,Q6 HF⟩
def Qcu (w:World) (e:TypeId) (size:Nat) (a:Option Addr) (n c j:Nat) (mark:Int):Prop :=
 n=0∨∃ g cur,a=some ⟨g,0,none⟩∧w.heap[g]? = some (.cells cur e (0,0))∧cur.size=c * size∧n≤c∧∀ k,k < j→cur[k * size+1]? = some (.int .i64 mark)
theorem Q9R {w:World} {N:Nat} {e:TypeId} {size:Nat} {a:Option Addr} {n c:Nat} {xs:List Value} (h:w.ownsRow N e size (.slice a n c) n xs) (mark:Int):Qcu w e size a n c 0 mark:=by
 rcases h.2 with ⟨_,h2⟩ | ⟨g,cap,cur,h1,_,h3,h4,_,h6,_⟩
 ·exact .inl h2
 ·cases h1
  exact .inr ⟨g,cur,rfl,h3,h6,h4,fun k hk=>by omega⟩
theorem QiT {w:World} {N:Nat} {e:TypeId} {size:Nat} {a:Option Addr} {n c:Nat} {xs:List Value} (h:w.ownsRow N e size (.slice a n c) n xs):c≤9223372036854775807:=by
 rcases h.2 with ⟨h1,_⟩ | ⟨g,cap,cur,h1,_,_,_,h5,_⟩
 ·cases h1; omega
 ·cases h1; unfold maxLen at h5; omega
theorem QdO (b:ByteArray):Qcv (Q0R (Q0X b)):=by
 have hno:Qcv QiM:=⟨Nat.zero_le _,Nat.zero_le _,Nat.zero_le _,Nat.zero_le _⟩
 unfold Q0X
 by_cases c:65535 < b.size
 ·rw [if_pos c]; exact hno
 ·rw [if_neg c]
  by_cases c12:b.size < 12
  ·rw [if_pos c12]; exact hno
  ·rw [if_neg c12]
   have h1:=Q8U b 12 (by omega) (num b 4 2)
   have l4:=Q0n b 4
   have l6:=Q0n b 6
   have l8:=Q0n b 8
   have l10:=Q0n b 10
   cases hq:Q1N b 12 (num b 4 2) with
   | error e=>exact hno
   | ok z =>
    obtain ⟨q,p1⟩:=z
    have h1':=h1 q p1 hq
    simp only
    have h2:=Q4J b 0 p1 h1'.2.2 (num b 6 2)
    cases ha:Q0V b 0 p1 (num b 6 2) with
    | error e=>exact hno
    | ok z =>
     obtain ⟨a,p2⟩:=z
     have h2':=h2 a p2 ha
     simp only
     have h3:=Q4J b 1 p2 h2'.2.2 (num b 8 2)
     cases hu:Q0V b 1 p2 (num b 8 2) with
     | error e=>exact hno
     | ok z =>
      obtain ⟨u,p3⟩:=z
      have h3':=h3 u p3 hu
      simp only
      have h4:=Q4J b 2 p3 h3'.2.2 (num b 10 2)
      cases hx:Q0V b 2 p3 (num b 10 2) with
      | error e=>exact hno
      | ok z =>
       obtain ⟨x,p4⟩:=z
       have h4':=h4 x p4 hx
       simp only
       split
       ·exact hno
       ·exact ⟨by show q.length≤_; omega,by show a.length≤_; omega,by show u.length≤_; omega,by show x.length≤_; omega⟩
theorem MsgIs.in {w w':World} {N B E:Nat} {v:Value} {m:Msg} (h:MsgIs w N v m) (hg:GrewIn w w' B E) (hN:E≤N):MsgIs w' N v m:=by
 obtain ⟨a1,c1,a2,c2,a3,c3,a4,c4,hv,o1,o2,o3,o4,ap⟩:=h
 have ne:∀ {e:TypeId} {size:Nat} {s:Value} {n:Nat} {xs:List Value},w.ownsRow N e size s n xs→∀ g,s.ownBlock=some g→g < B∨E≤g:=fun ho g hg=>.inr (by have:=(ho.lt g hg).1; omega)
 exact ⟨a1,c1,a2,c2,a3,c3,a4,c4,hv,hg.owns o1 (ne o1),hg.owns o2 (ne o2),hg.owns o3 (ne o3),hg.owns o4 (ne o4),ap⟩
theorem MsgIs.form {w:World} {N:Nat} {v:Value} {m:Msg} (h:MsgIs w N v m):∃ a1 n1 c1 a2 n2 c2 a3 n3 c3 a4 n4 c4,v=.agg #[.int .i64 m.id,.int .i64 m.flags,.slice a1 n1 c1,.slice a2 n2 c2,.slice a3 n3 c3,.slice a4 n4 c4]:=by
 obtain ⟨a1,c1,a2,c2,a3,c3,a4,c4,hv,_⟩:=h
 exact ⟨_,_,_,_,_,_,_,_,_,_,_,_,hv⟩
end Go.Proofs.YtdhobdmhnocbgabGreatDoor
