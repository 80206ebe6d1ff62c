import Derived.Test.YtdhobdmhnocbgabGreatDoorSAnF
import Derived.Laws.BitsAllLaws
namespace Go.Proofs.YtdhobdmhnocbgabGreatDoor
open Go.RowKit Zr
theorem Q5q (a b:Nat) (ha:a < 65536) (hb:b < 65536):bits .or .i64 (a:Int) (b:Int)=((a ||| b:Nat):Int):=by
 have hx:a ||| b < 2 ^ 16:=Nat.or_lt_two_pow (by omega) (by omega)
 show IntKind.i64.wrap ((BitVec.ofInt 64 (a:Int) ||| BitVec.ofInt 64 (b:Int)).toNat:Int)=_
 rw [BitVec.toNat_or,BitVec.ofInt_natCast,BitVec.ofInt_natCast,BitVec.toNat_ofNat,BitVec.toNat_ofNat,Nat.mod_eq_of_lt (by omega),Nat.mod_eq_of_lt (by omega),IntKind.wrap_i64]
 omega
theorem Q61 (a b:Nat) (ha:a < 65536) (hb:b < 65536):bits .and .i64 (a:Int) (b:Int)=((a &&& b:Nat):Int):=by
 have hx:a &&& b < 2 ^ 16:=Nat.and_lt_two_pow _ (by omega)
 show IntKind.i64.wrap ((BitVec.ofInt 64 (a:Int) &&& BitVec.ofInt 64 (b:Int)).toNat:Int)=_
 rw [BitVec.toNat_and,BitVec.ofInt_natCast,BitVec.ofInt_natCast,BitVec.toNat_ofNat,BitVec.toNat_ofNat,Nat.mod_eq_of_lt (by omega),Nat.mod_eq_of_lt (by omega),IntKind.wrap_i64]
 omega
def SetsAt (w:World) (a:Option Addr) (L:List ST):Prop :=
 ∀ i (_:i < L.length),∃ b o a' c',a=some ⟨b,o,none⟩∧b < w.heap.size∧w.cell? ⟨b,o+i * 3,none⟩=some (.int .i64 (L[i].part:Nat))∧w.cell? ⟨b,o+i * 3+1,none⟩=some (.int .i64 L[i].kind)∧w.cell? ⟨b,o+i * 3+2,none⟩=some (.slice a' L[i].l.length c')∧RecRow w a' L[i].l∧L[i].l.length≤c'
theorem SetsAt.below {w w':World} {a:Option Addr} {L:List ST} (h:SetsAt w a L) (hb:Below w.heap.size w w'):SetsAt w' a L:=by
 intro i hi
 obtain ⟨b,o,a',c',h1,h2,h3,h4,h5,h6,h7⟩:=h i hi
 exact ⟨b,o,a',c',h1,Nat.lt_of_lt_of_le h2 hb.size,(hb.cell (p:=⟨b,o+i * 3,none⟩) h2).trans h3,(hb.cell (p:=⟨b,o+i * 3+1,none⟩) h2).trans h4,(hb.cell (p:=⟨b,o+i * 3+2,none⟩) h2).trans h5,h6.below hb,h7⟩
def Q6W (L:List ST):Prop:=(∀ s,s∈L→s.l≠[]∧s.part≤2∧Q6o s.l)∧(L.flatMap ST.l).length≤134217720
def Rp (w:World) (X:Nat) (x:Rep):Prop:=∃ aq cq a c,
 w.heap[X]? = some (.cells #[.int .i64 (x.id:Nat),.int .i64 (x.fl:Nat),.int .i64 (x.told:Nat),.slice aq x.q.length cq,.bool x.opt,.slice a x.sets.length c,.int .i64 (x.lim:Nat)] 144 (0,0)) ∧
 RowAt w w.heap.size aq (qcI x.q)∧x.q.length≤cq∧Q4m x.q∧SetsAt w a x.sets∧Q6W x.sets∧x.sets.length≤134217720∧x.id < 65536∧x.fl < 65536∧x.told≤16∧x.lim≤65535
theorem Rp.below {w w':World} {X:Nat} {x:Rep} (h:Rp w X x) (hb:Below w.heap.size w w'):Rp w' X x:=by
 obtain ⟨aq,cq,a,c,h1,h2,h3,h4,h5,h6⟩:=h
 exact ⟨aq,cq,a,c,(hb.block X (Qb h1)).trans h1,(h2.below hb).mono hb.size,h3,h4,h5.below hb,h6⟩
theorem Rp.lt {w:World} {X:Nat} {x:Rep} (h:Rp w X x):X < w.heap.size:=by
 obtain ⟨aq,cq,a,c,h1,_⟩:=h
 exact Qb h1
theorem Q22 {w:World} {k:Nat} {a b c d e f g:Value} {t:TypeId} (h:w.heap[k]? = some (.cells #[a,b,c,d,e,f,g] t (0,0))) :
  (w.cell? ⟨k,0,none⟩=some a∧w.cell? ⟨k,1,none⟩=some b∧w.cell? ⟨k,2,none⟩=some c∧w.cell? ⟨k,3,none⟩=some d∧w.cell? ⟨k,4,none⟩=some e∧w.cell? ⟨k,5,none⟩=some f∧w.cell? ⟨k,6,none⟩=some g) ∧
  w.frozen? ⟨k,0,none⟩=false∧w.frozen? ⟨k,1,none⟩=false∧w.frozen? ⟨k,2,none⟩=false∧w.frozen? ⟨k,3,none⟩=false∧w.frozen? ⟨k,4,none⟩=false∧w.frozen? ⟨k,5,none⟩=false∧w.frozen? ⟨k,6,none⟩=false:=by
 refine ⟨⟨?_,?_,?_,?_,?_,?_,?_⟩,Qd h _,Qd h _,Qd h _,Qd h _,Qd h _,Qd h _,Qd h _⟩ <;> (rw [Qc h]; rfl)
theorem Qdt (l:List RI):∀ v,v∈rcI l→v.oneCell'=true:=by
 intro v hv
 unfold rcI at hv
 rw [List.mem_flatMap] at hv
 obtain ⟨x,_,hx⟩:=hv
 exact Qa1 v hx
theorem Q6D (l m:List RI):rcI (l++m)=rcI l++rcI m:=by unfold rcI; rw [List.flatMap_append]
theorem Qaa (l:List RI):(rcI l).length=l.length * 5:=by
 induction l with
 | nil=>rfl
 | cons x l ih =>
  have:rcI (x :: l)=[.string x.name,.int .i64 x.ty,.int .i64 x.cl,.int .i64 x.ttl,.string x.data]++rcI l:=rfl
  rw [this,List.length_append,ih]
  simp only [List.length_cons,List.length_nil]
  omega
theorem Qcn {w:World} {a:Option Addr} {l:List RI} (c:Nat) (h:RecRow w a l) (hl:l≠[]):Src Tryz.prog 5 27 (.slice a l.length c) l.length (rcI l) w:=by
 obtain ⟨g,o,cs,rfl,h2,h3⟩:=h hl
 exact Src.ofSlice _ Tryz.underlying27 ⟨g,o,none⟩ _ _ _ (Qaa l) (fun j u hu=>by
  rw [Addr.add_lit,Qc h2]
  exact h3 j u hu) (Qdt l)
def pTo (L:List ST) (c p j:Nat):List RI:=Q0k (L.take (min j c)) p
theorem Q8s (A B:List ST) (p:Nat):Q0k (A++B) p=Q0k A p++Q0k B p:=by
 unfold Q0k
 rw [List.filter_append,List.flatMap_append]
theorem QiU (L:List ST) (c p j:Nat) (h:c≤j):pTo L c p (j+1)=pTo L c p j:=by
 unfold pTo
 rw [Nat.min_eq_right h,Nat.min_eq_right (by omega)]
theorem QiV (L:List ST) (c p j:Nat) (h:j < c) (hj:j < L.length):(L[j].part=p→pTo L c p (j+1)=pTo L c p j++L[j].l)∧(L[j].part≠p→pTo L c p (j+1)=pTo L c p j):=by
 have e:pTo L c p (j+1)=Q0k (L.take j) p++Q0k [L[j]] p:=by
  unfold pTo
  rw [Nat.min_eq_left (by omega),List.take_succ_eq_append_getElem hj,Q8s]
 have e2:pTo L c p j=Q0k (L.take j) p:=by unfold pTo; rw [Nat.min_eq_left (by omega)]
 rw [e,e2]
 refine ⟨fun q=>?_,fun q=>?_⟩
 ·congr 1
  unfold Q0k
  rw [List.filter_cons_of_pos (by simpa using q)]
  simp
 ·unfold Q0k
  rw [List.filter_cons_of_neg (by simpa using q)]
  simp
theorem QkA (L:List ST) (c p:Nat):pTo L c p L.length=Q0k (L.take c) p:=by
 unfold pTo
 rcases Nat.le_total L.length c with h | h
 ·rw [Nat.min_eq_left h,List.take_length,List.take_of_length_le h]
 ·rw [Nat.min_eq_right h]
theorem Q4Y (L:List ST) (c f j:Nat) (h:j < L.length):Q0P L c f (j+1)=if c≤j∧L[j].part≠2 then Q0P L c f j ||| 512 else Q0P L c f j:=by
 conv=>lhs; unfold Q0P
 rw [List.getElem?_eq_getElem h]
theorem QbZ (L:List ST) (c f:Nat) (h:f < 65536):∀ j,Q0P L c f j < 65536
 | 0=>h
 | j+1=>by
  have ih:=QbZ L c f h j
  rcases Nat.lt_or_ge j L.length with k | k
  ·rw [Q4Y L c f j k]
   split
   ·exact Nat.or_lt_two_pow (n:=16) ih (by decide)
   ·exact ih
  ·have:Q0P L c f (j+1)=Q0P L c f j:=by
    conv=>lhs; unfold Q0P
    rw [List.getElem?_eq_none k]
   rw [this]
   exact ih
theorem Qh4 {L:List ST} {p:Nat} {x:RI} (h:x∈Q0k L p):∃ s,s∈L∧x∈s.l:=by
 unfold Q0k at h
 rw [List.mem_flatMap] at h
 obtain ⟨s,hs,hx⟩:=h
 exact ⟨s,(List.mem_filter.1 hs).1,hx⟩
theorem QfE {A B:List ST} (h:List.Sublist A B):(A.flatMap ST.l).length≤(B.flatMap ST.l).length:=by
 induction h with
 | slnil=>exact Nat.le_refl _
 | cons a _ ih=>rw [List.flatMap_cons,List.length_append]; omega
 | cons_cons a _ ih=>rw [List.flatMap_cons,List.flatMap_cons,List.length_append,List.length_append]; omega
theorem QkB (L:List ST) (c p j:Nat):(pTo L c p j).length≤(L.flatMap ST.l).length :=
 QfE ((List.filter_sublist).trans (List.take_sublist _ _))
theorem Q3O {w w':World} {N:Nat} {e:TypeId} {size:Nat} {u v:Value} {n:Nat} {xs:List Value} (h:w.ownsRow N e size v n xs) (hg:w.grownBy w' u.ownBlock) (ha:Apart u v):w'.ownsRow N e size v n xs:=by
 refine ⟨h.1,?_⟩
 rcases h.2 with hn | ⟨g,cap,cur,hv,hb,hk,rest⟩
 ·exact .inl hn
 ·refine .inr ⟨g,cap,cur,hv,hb,(hg.block g (Qb hk) (fun e=>?_)).trans hk,rest⟩
  exact ha g e.symm (by rw [hv]; rfl)
theorem Q3h {w:World} {N:Nat} {e:TypeId} {size:Nat} {u u' v:Value} {n:Nat} {xs:List Value} (h:w.ownsRow N e size v n xs) (ha:Apart u v) (hat:u'.ownBlock=u.ownBlock∨u'.ownBlock=some w.heap.size):Apart u' v:=by
 intro g hu hv
 rcases hat with k | k
 ·exact ha g (by rw [←k]; exact hu) hv
 ·rw [k] at hu
  cases hu
  have:=(h.lt _ hv).2
  omega
theorem Q2w {u v:Value} (h:Apart u v):Apart v u:=fun g hv hu=>h g hu hv
structure MBx (w0:World) (M:Nat) (id f:Int) (vq:Value) (a2:Option Addr) (c2:Nat) (a3:Option Addr) (c3:Nat) (a4:Option Addr) (c4:Nat) (P0 P1 P2:List RI) (w:World):Prop where
 m:w.heap[M]? = some (.cells #[.int .i64 id,.int .i64 f,vq,.slice a2 P0.length c2,.slice a3 P1.length c3,.slice a4 P2.length c4] 32 (0,0))
 o2:w.ownsRow w0.heap.size 61 5 (.slice a2 P0.length c2) P0.length (rcI P0)
 o3:w.ownsRow w0.heap.size 61 5 (.slice a3 P1.length c3) P1.length (rcI P1)
 o4:w.ownsRow w0.heap.size 61 5 (.slice a4 P2.length c4) P2.length (rcI P2)
 p23:Apart (.slice a2 P0.length c2) (.slice a3 P1.length c3)
 p24:Apart (.slice a2 P0.length c2) (.slice a4 P2.length c4)
 p34:Apart (.slice a3 P1.length c3) (.slice a4 P2.length c4)
 b:Below w0.heap.size w0 w
 hM:w0.heap.size≤M
section
variable {w0:World} {M:Nat} {id f:Int} {vq:Value} {a2:Option Addr} {c2:Nat} {a3:Option Addr} {c3:Nat} {a4:Option Addr} {c4:Nat} {P0 P1 P2:List RI} {w:World}
theorem MBx.below (h:MBx w0 M id f vq a2 c2 a3 c3 a4 c4 P0 P1 P2 w) {w':World} (hb:Below w.heap.size w w'):MBx w0 M id f vq a2 c2 a3 c3 a4 c4 P0 P1 P2 w' :=
 ⟨(hb.block M (Qb h.m)).trans h.m,Qk h.o2 hb,Qk h.o3 hb,Qk h.o4 hb,h.p23,h.p24,h.p34,h.b.trans (hb.mono h.b.size),h.hM⟩
theorem MBx.flag (h:MBx w0 M id f vq a2 c2 a3 c3 a4 c4 P0 P1 P2 w) (f':Int):MBx w0 M id f' vq a2 c2 a3 c3 a4 c4 P0 P1 P2 (w.setCell ⟨M,1,none⟩ (.int .i64 f')) :=
 ⟨Qo h.m 1 _,Qi h.o2 h.m (by decide) 1 _,Qi h.o3 h.m (by decide) 1 _,Qi h.o4 h.m (by decide) 1 _,h.p23,h.p24,h.p34,h.b.setCell h.hM _,h.hM⟩
theorem MBx.app0 (h:MBx w0 M id f vq a2 c2 a3 c3 a4 c4 P0 P1 P2 w) {w':World} {l:List RI} {a:Option Addr} {c:Nat} (ho:w'.ownsRow w0.heap.size 61 5 (.slice a (P0.length+l.length) c) (P0.length+l.length) (rcI P0++rcI l)) (hg:w.grownBy w' (Value.slice a2 P0.length c2).ownBlock)
  (hat:(Value.slice a (P0.length+l.length) c).ownBlock=(Value.slice a2 P0.length c2).ownBlock∨(Value.slice a (P0.length+l.length) c).ownBlock=some w.heap.size):MBx w0 M id f vq a c a3 c3 a4 c4 (P0++l) P1 P2 (w'.setCell ⟨M,3,none⟩ (.slice a (P0.length+l.length) c)):=by
 have hm:=Q02 h.o2 hg h.m (by decide)
 rw [←Q6D] at ho
 constructor
 ·rw [List.length_append]; exact Qo hm 3 _
 ·rw [List.length_append]; exact Qi ho hm (by decide) 3 _
 ·exact Qi (Q3O h.o3 hg h.p23) hm (by decide) 3 _
 ·exact Qi (Q3O h.o4 hg h.p24) hm (by decide) 3 _
 ·rw [List.length_append]; exact Q3h h.o3 h.p23 hat
 ·rw [List.length_append]; exact Q3h h.o4 h.p24 hat
 ·exact h.p34
 ·exact (h.b.trans (Qn h.o2 hg h.b.size)).setCell h.hM _
 ·exact h.hM
theorem MBx.app1 (h:MBx w0 M id f vq a2 c2 a3 c3 a4 c4 P0 P1 P2 w) {w':World} {l:List RI} {a:Option Addr} {c:Nat} (ho:w'.ownsRow w0.heap.size 61 5 (.slice a (P1.length+l.length) c) (P1.length+l.length) (rcI P1++rcI l)) (hg:w.grownBy w' (Value.slice a3 P1.length c3).ownBlock)
  (hat:(Value.slice a (P1.length+l.length) c).ownBlock=(Value.slice a3 P1.length c3).ownBlock∨(Value.slice a (P1.length+l.length) c).ownBlock=some w.heap.size):MBx w0 M id f vq a2 c2 a c a4 c4 P0 (P1++l) P2 (w'.setCell ⟨M,4,none⟩ (.slice a (P1.length+l.length) c)):=by
 have hm:=Q02 h.o3 hg h.m (by decide)
 rw [←Q6D] at ho
 constructor
 ·rw [List.length_append]; exact Qo hm 4 _
 ·exact Qi (Q3O h.o2 hg (Q2w h.p23)) hm (by decide) 4 _
 ·rw [List.length_append]; exact Qi ho hm (by decide) 4 _
 ·exact Qi (Q3O h.o4 hg h.p34) hm (by decide) 4 _
 ·rw [List.length_append]; exact Q2w (Q3h h.o2 (Q2w h.p23) hat)
 ·exact h.p24
 ·rw [List.length_append]; exact Q3h h.o4 h.p34 hat
 ·exact (h.b.trans (Qn h.o3 hg h.b.size)).setCell h.hM _
 ·exact h.hM
theorem MBx.app2 (h:MBx w0 M id f vq a2 c2 a3 c3 a4 c4 P0 P1 P2 w) {w':World} {l:List RI} {a:Option Addr} {c:Nat} (ho:w'.ownsRow w0.heap.size 61 5 (.slice a (P2.length+l.length) c) (P2.length+l.length) (rcI P2++rcI l)) (hg:w.grownBy w' (Value.slice a4 P2.length c4).ownBlock)
  (hat:(Value.slice a (P2.length+l.length) c).ownBlock=(Value.slice a4 P2.length c4).ownBlock∨(Value.slice a (P2.length+l.length) c).ownBlock=some w.heap.size):MBx w0 M id f vq a2 c2 a3 c3 a c P0 P1 (P2++l) (w'.setCell ⟨M,5,none⟩ (.slice a (P2.length+l.length) c)):=by
 have hm:=Q02 h.o4 hg h.m (by decide)
 rw [←Q6D] at ho
 constructor
 ·rw [List.length_append]; exact Qo hm 5 _
 ·exact Qi (Q3O h.o2 hg (Q2w h.p24)) hm (by decide) 5 _
 ·exact Qi (Q3O h.o3 hg (Q2w h.p34)) hm (by decide) 5 _
 ·rw [List.length_append]; exact Qi ho hm (by decide) 5 _
 ·exact h.p23
 ·rw [List.length_append]; exact Q2w (Q3h h.o2 (Q2w h.p24) hat)
 ·rw [List.length_append]; exact Q2w (Q3h h.o3 (Q2w h.p34) hat)
 ·exact (h.b.trans (Qn h.o4 hg h.b.size)).setCell h.hM _
 ·exact h.hM
end
theorem Qmc (p:Nat) (w:World):Calls Tryz.prog 168 #[.int .i64 (p:Nat)] w fun e w'=>e=.returned (.int .i64 ((if p=2 then 0 else 512:Nat):Int))∧w'=w:=by
 by_cases c:p=2
 ·subst c
  go_enter Tryz.func168,Tryz.ntmps168
  go_wp2_with fail
  go_ret
  exact ⟨rfl,rfl⟩
 ·have f:((p:Int) == 2)=false:=beq_eq_false_iff_ne.2 (by omega)
  rw [if_neg c]
  go_enter Tryz.func168,Tryz.ntmps168
  go_wp2_with fail
  go_ret
  exact ⟨rfl,rfl⟩
set_option maxRecDepth 100000 in
set_option maxHeartbeats 2000000 in
theorem Qmm (X:Nat) (x:Rep) (w:World) (h:Rp w X x):Calls Tryz.prog 169 #[.pointer (some ⟨X,0,none⟩)] w fun e w'=>e=.returned (.agg #[.string ⟨#[0]⟩,.int .i64 41,.int .i64 4096,.int .i64 ((x.told / 16 * 16777216:Nat):Int),.string ⟨#[]⟩])∧Below w.heap.size w w':=by
 obtain ⟨aq,cq,a,c,hX,_,_,_,_,_,_,_,_,ht,_⟩:=h
 obtain ⟨⟨x0,x1,x2,x3,x4,x5,x6⟩,_⟩:=Q22 hX
 have hlt:=Qb hX
 clear hX
 generalize x.told=t at *
 go_enter Tryz.func169,Tryz.ntmps169
 go_wp2_with fail
 have hA:=heap_alloc_new w (.cells #[.string ⟨#[0]⟩,.int .i64 41,.int .i64 4096,.int .i64 ((t:Int) / 16 * 16777216),.string ⟨#[]⟩] 61)
 obtain ⟨⟨g0,g1,g2,g3,g4⟩,_⟩:=Q1a hA
 have e:((t / 16 * 16777216:Nat):Int)=(t:Int) / 16 * 16777216:=by omega
 refine bodyPost_ret (v:=.agg #[.string ⟨#[0]⟩,.int .i64 41,.int .i64 4096,.int .i64 ((t:Int) / 16 * 16777216),.string ⟨#[]⟩]) (by simp [results,Tryz.results169,go_sem,g0,g1,g2,g3,g4]) rfl ?_
 exact ⟨by rw [e],(Below.refl _ _).alloc (Nat.le_refl _) _⟩
def QhD (w:World) (m:MI) (e:Ending) (w':World):Prop:=∃ v,e=.returned v∧MsgAt w' w'.heap.size v m∧Below w.heap.size w w'
theorem Q69 {w:World} {B N:Nat} {e:TypeId} {size:Nat} {v:Value} {n:Nat} {xs:List Value} (h:w.ownsRow B e size v n xs) {cs:Array Value} {t:TypeId} (hR:w.heap[N]? = some (.cells cs t (0,0))) (hne:e≠t) (v0 v1 v2 v3 v4 v5:Value) :
  ((((((w.setCell ⟨N,0,none⟩ v0).setCell ⟨N,1,none⟩ v1).setCell ⟨N,2,none⟩ v2).setCell ⟨N,3,none⟩ v3).setCell ⟨N,4,none⟩ v4).setCell ⟨N,5,none⟩ v5).ownsRow B e size v n xs:=by
 have h1:=Qo hR 0 v0
 have h2:=Qo h1 1 v1
 have h3:=Qo h2 2 v2
 have h4:=Qo h3 3 v3
 have h5:=Qo h4 4 v4
 exact Qi (Qi (Qi (Qi (Qi (Qi h hR hne 0 v0) h1 hne 1 v1) h2 hne 2 v2) h3 hne 3 v3) h4 hne 4 v4) h5 hne 5 v5
theorem Q5a {l:List RI} (h:∀ x,x∈l→x.name.size≤4294967296∧x.data.size≤4294967296):Q4O l:=fun i hi=>by
 have:=h _ (List.getElem_mem hi)
 omega
theorem Q3P {L:List ST} (h:Q6W L) (c p:Nat):∀ x,x∈Q0k (L.take c) p→x.name.size≤4294967296∧x.data.size≤4294967296:=fun x hx=>by
 obtain ⟨s,hs,hx⟩:=Qh4 hx
 exact (h.1 s (List.mem_of_mem_take hs)).2.2 x hx
theorem Qa2 (x:Rep):∀ y,y∈Q0o x→y.name.size≤4294967296∧y.data.size≤4294967296:=fun y hy=>by
 unfold Q0o at hy
 split at hy
 ·rw [List.mem_singleton] at hy
  subst hy
  exact ⟨by show 1≤4294967296; decide,by show 0≤4294967296; decide⟩
 ·cases hy
theorem Qbs {w w1:World} {x:Rep} {c:Nat} {aq:Option Addr} {cq:Nat} {a2:Option Addr} {c2:Nat} {a3:Option Addr} {c3:Nat} {a4:Option Addr} {c4:Nat} {M N:Nat} {cs:Array Value} {f:Int} {P0 P1 P2:List RI} (hq1:RowAt w w.heap.size aq (qcI x.q)) (hq2:x.q.length≤cq) (hq3:Q4m x.q) (hs:Q6W x.sets)
  (hB:MBx w M (x.id:Nat) f (.slice aq x.q.length cq) a2 c2 a3 c3 a4 c4 P0 P1 P2 w1) (hf:f=((Q0P x.sets c (x.fl ||| x.told % 16) x.sets.length:Nat):Int)) (h0:P0=pTo x.sets c 0 x.sets.length) (h1:P1=pTo x.sets c 1 x.sets.length) (h2:P2=pTo x.sets c 2 x.sets.length++Q0o x)
  (hR:w1.heap[N]? = some (.cells cs 32 (0,0))) (hN:w.heap.size≤N) :
  QhD w (Q0A x c) (.returned (.agg #[.int .i64 (x.id:Nat),.int .i64 f,.slice aq x.q.length cq,.slice a2 P0.length c2,.slice a3 P1.length c3,.slice a4 P2.length c4])) ((((((w1.setCell ⟨N,0,none⟩ (.int .i64 (x.id:Nat))).setCell ⟨N,1,none⟩ (.int .i64 f)).setCell ⟨N,2,none⟩ (.slice aq x.q.length cq)).setCell ⟨N,3,none⟩ (.slice a2 P0.length c2)).setCell ⟨N,4,none⟩ (.slice a3 P1.length c3)).setCell ⟨N,5,none⟩ (.slice a4 P2.length c4)):=by
 have hb:=Q3a hB.b hN (.int .i64 (x.id:Nat)) (.int .i64 f) (.slice aq x.q.length cq) (.slice a2 P0.length c2) (.slice a3 P1.length c3) (.slice a4 P2.length c4)
 rw [QkA] at h0 h1 h2
 refine ⟨_,rfl,⟨aq,cq,a2,c2,a3,c3,a4,c4,?_,(hq1.below hb).mono hb.size,?_,?_,?_,hq3,Q5a (Q3P hs c 0),Q5a (Q3P hs c 1),Q5a ?_,hq2,?_,?_,?_⟩,hb⟩
 ·subst hf h0 h1 h2
  rfl
 ·have:=Q0u (Q69 hB.o2 hR (by decide) (.int .i64 (x.id:Nat)) (.int .i64 f) (.slice aq x.q.length cq) (.slice a2 P0.length c2) (.slice a3 P1.length c3) (.slice a4 P2.length c4))
  subst h0
  exact this
 ·have:=Q0u (Q69 hB.o3 hR (by decide) (.int .i64 (x.id:Nat)) (.int .i64 f) (.slice aq x.q.length cq) (.slice a2 P0.length c2) (.slice a3 P1.length c3) (.slice a4 P2.length c4))
  subst h1
  exact this
 ·have:=Q0u (Q69 hB.o4 hR (by decide) (.int .i64 (x.id:Nat)) (.int .i64 f) (.slice aq x.q.length cq) (.slice a2 P0.length c2) (.slice a3 P1.length c3) (.slice a4 P2.length c4))
  subst h2
  exact this
 ·intro y hy
  rcases List.mem_append.1 hy with k | k
  ·exact Q3P hs c 2 y k
  ·exact Qa2 x y k
 ·have:=(Q18 hB.o2).2
  subst h0
  exact this
 ·have:=(Q18 hB.o3).2
  subst h1
  exact this
 ·have:=(Q18 hB.o4).2
  subst h2
  exact this
set_option maxRecDepth 100000 in
set_option maxHeartbeats 4000000 in
theorem Qbr (X:Nat) (x:Rep) (c:Nat) (w:World) (h:Rp w X x) (hc:c≤134217720) :
  Calls Tryz.prog 140 #[.pointer (some ⟨X,0,none⟩),.int .i64 (c:Nat)] w fun e w'=>QhD w (Q0A x c) e w':=by
 obtain ⟨i0,hi,hz0,hz1,hz2⟩:=info_parts Tryz.info61
 have Hi:=Qa hi
 have Hz0:=Qa hz0
 have Hz1:=Qa hz1
 have Hz2:=Qa hz2
 clear hi hz0 hz1 hz2
 have HRp:=Qa h
 obtain ⟨aq,cq,a,cs,hX,hq1,hq2,hq3,hs1,hs2,hs3,hid,hfl,htl,hlm⟩:=h
 obtain ⟨⟨x0,x1,x2,x3,x4,x5,x6⟩,y0,y1,y2,y3,y4,y5,y6⟩:=Q22 hX
 have hlt:=Qb hX
 obtain ⟨N,hN⟩:∃ N,w.heap.size=N:=⟨_,rfl⟩
 have hor:bits .or .i64 (x.fl:Int) ((x.told:Int).tmod 16)=((x.fl ||| x.told % 16:Nat):Int):=by
  have e:((x.told:Int).tmod 16)=((x.told % 16:Nat):Int):=by rw [Int.tmod_eq_emod_of_nonneg (by omega)]; omega
  rw [e]
  exact Q5q _ _ hfl (by omega)
 have hf0:x.fl ||| x.told % 16 < 65536:=Nat.or_lt_two_pow (n:=16) hfl (by omega)
 clear hX
 go_enter Tryz.func140,Tryz.ntmps140
 go_wp2_with fail
 go_cut [5] (fun p w'=>p=.pointer (some ⟨N+1,0,none⟩)∧Hid (w'.heap[N+1]? = some (.cells #[.int .i64 (x.id:Nat),.int .i64 ((x.fl ||| x.told % 16:Nat):Int),.slice aq x.q.length cq,.slice none 0 0,.slice none 0 0,.slice none 0 0] 32 (0,0)))∧Hid (w'.heap[N]? = some (.cells #[.int .i64 0,.int .i64 0,.slice none 0 0,.slice none 0 0,.slice none 0 0,.slice none 0 0] 32 (0,0)))∧Hid (Below N w w'))
 case first =>
  go_region_held3 (fun u=>u.cell? ⟨X,0,none⟩=some (.int .i64 (x.id:Nat))∧u.cell? ⟨X,1,none⟩=some (.int .i64 (x.fl:Nat))∧u.cell? ⟨X,2,none⟩=some (.int .i64 (x.told:Nat))∧u.cell? ⟨X,3,none⟩=some (.slice aq x.q.length cq)) (go_keep) (fail)
  all_goals go_wp2_with fail
  all_goals go_meet
  all_goals
   refine ⟨rfl,?_,?_,?_⟩
   ·have h1:=(Q2f w (.cells #[.int .i64 0,.int .i64 0,.slice none 0 0,.slice none 0 0,.slice none 0 0,.slice none 0 0] 32) (.cells #[.int .i64 (x.id:Nat),.int .i64 ((x.fl ||| x.told % 16:Nat):Int),.slice aq x.q.length cq,.slice none 0 0,.slice none 0 0,.slice none 0 0] 32)).2
    rw [hN] at h1
    exact h1
   ·have h1:=(Q2f w (.cells #[.int .i64 0,.int .i64 0,.slice none 0 0,.slice none 0 0,.slice none 0 0,.slice none 0 0] 32) (.cells #[.int .i64 (x.id:Nat),.int .i64 ((x.fl ||| x.told % 16:Nat):Int),.slice aq x.q.length cq,.slice none 0 0,.slice none 0 0,.slice none 0 0] 32)).1
    rw [hN] at h1
    exact h1
   ·exact Q2x (((Below.refl _ _).alloc (by omega) _).alloc (by simp; omega) _)
 case rest =>
  obtain ⟨rfl,HM,HR0,HB1⟩:=hcut
  have hMB:MBx w (N+1) (x.id:Nat) ((x.fl ||| x.told % 16:Nat):Int) (.slice aq x.q.length cq) none 0 none 0 none 0 [] [] [] wc:=⟨Q6 HM,World.ownsRow_nil _ _ _ _,World.ownsRow_nil _ _ _ _,World.ownsRow_nil _ _ _ _,fun g h=>by simp [Value.ownBlock] at h,fun g h=>by simp [Value.ownBlock] at h,fun g h=>by simp [Value.ownBlock] at h,by rw [hN]; exact Q6 HB1,by omega⟩
  have HMB:=Qa hMB
  have HP0:Hid (∀ p,pTo x.sets c p 0=[]):=fun p=>by unfold pTo; simp [Q0k]
  have HS2:=Qa hs2
  have HQ1:=Qa hq1
  have HQ3:=Qa hq3
  obtain ⟨vq,hvq⟩:∃ vq,Value.slice aq x.q.length cq=vq:=⟨_,rfl⟩
  obtain ⟨F,hF⟩:∃ F,x.fl ||| x.told % 16=F:=⟨_,rfl⟩
  rw [hF] at hMB HMB hf0
  rw [hvq] at hMB HMB
  have HVq:=Qa hvq
  have HFe:=Qa hF
  have HLt:=Qa (QbZ x.sets c F hf0)
  have HStp:=Qa (Q4Y x.sets c F)
  have HLate:=Qa (QiU x.sets c)
  have HEarly:=Qa (QiV x.sets c)
  have HLen:=Qa (QkB x.sets c)
  have hsum:=hs2.2
  clear hMB hor hf0 HM HB1 hq1 hs1 hs2 x0 x1 x2 x3 x4 x5 x6 y0 y1 y2 y3 y4 y5 y6 hvq hF
  go_wp2_with fail
  go_loopg [6] (x.sets.length+1) (fun g vi w'=>∃ (j:Nat) (a2:Option Addr) (c2:Nat) (a3:Option Addr) (c3:Nat) (a4:Option Addr) (c4:Nat),vi=.int .i64 j∧j≤x.sets.length∧g=x.sets.length+1 - j∧Hid (MBx w (N+1) (x.id:Nat) ((Q0P x.sets c F j:Nat):Int) vq a2 c2 a3 c3 a4 c4 (pTo x.sets c 0 j) (pTo x.sets c 1 j) (pTo x.sets c 2 j) w')∧Hid (w'.heap[N]? = some (.cells #[.int .i64 0,.int .i64 0,.slice none 0 0,.slice none 0 0,.slice none 0 0,.slice none 0 0] 32 (0,0))))
  case atStart=>exact ⟨0,none,0,none,0,none,0,rfl,Nat.zero_le _,rfl,Qa (by rw [Q6 HP0,Q6 HP0,Q6 HP0]; exact Q6 HMB),HR0⟩
  case round =>
   obtain ⟨j,a2,c2,a3,c3,a4,c4,rfl,hj,rfl,HB,HR⟩:=hrel
   have hRp:=(Q6 HRp).below (Q6 HB).b
   obtain ⟨aq',cq',a',cs',hX',_,_,_,hs1',_⟩:=hRp
   obtain ⟨⟨x0,x1,x2,x3,x4,x5,x6⟩,y0,y1,y2,y3,y4,y5,y6⟩:=Q22 hX'
   have hltX:=Qb hX'
   obtain ⟨⟨b0,b1,b2,b3,b4,b5⟩,z0,z1,z2,z3,z4,z5⟩:=Qh (Q6 HB).m
   have hltM:=Qb (Q6 HB).m
   clear hX'
   by_cases cj:j < x.sets.length
   ·obtain ⟨b,o,a5,c5,rfl,hb,e0,e1,e2,e3,e4⟩:=hs1' j cj
    clear hs1'
    have hmem:=(Q6 HS2).1 _ (List.getElem_mem cj)
    have hst:=Q6 HStp j cj
    have hlt:=Q6 HLt j
    have hl0:=Q6 HLen 0 (j+1)
    have hl1:=Q6 HLen 1 (j+1)
    have hl2:=Q6 HLen 2 (j+1)
    by_cases cc:c≤j
    ·have hp:=fun p=>Q6 HLate p j cc
     have kc:=fun (W:World)=>Qmc x.sets[j].part W
     obtain ⟨q,hq⟩:∃ q:Nat,(if x.sets[j].part=2 then 0 else 512:Nat)=q:=⟨_,rfl⟩
     have hq5:q≤512:=by rw [←hq]; split <;> omega
     have hstq:Q0P x.sets c F (j+1)=Q0P x.sets c F j ||| q:=by
      rw [hst,←hq]
      by_cases k:x.sets[j].part=2
      ·rw [if_neg (fun h=>h.2 k),if_pos k]; simp
      ·rw [if_pos ⟨cc,k⟩,if_neg k]
     rw [hq] at kc
     have hor2:=Q5q (Q0P x.sets c F j) q hlt (by omega)
     rw [←hstq] at hor2
     have HP:=Qa hp
     have KC:=Qa kc
     clear hp kc hq hst hstq hmem hl0 hl1 hl2
     generalize x.sets[j]=s at *
     obtain ⟨sp,sk,sl⟩:=s
     simp only at e0 e1 e2 e3 e4 KC
     go_wp2_with fail
     have hbx:Below wr.heap.size wr (wr.alloc (.cells #[.int .i64 (sp:Nat),.int .i64 sk,.slice a5 sl.length c5] 201)):=(Below.refl _ _).alloc (Nat.le_refl _) _
     have Hbx:=Qa hbx
     clear hbx
     go_region_with (first | (go_at_call 168; refine (Q6 KC _).mono ?_; rintro e w1 ⟨rfl,rfl⟩))
     all_goals
      go_wp2_with fail
      go_roundg (x.sets.length+1 - (j+1))
      case measure=>omega
      case rel =>
       refine ⟨j+1,a2,c2,a3,c3,a4,c4,by go_num,by omega,rfl,Qa ?_,Qa ?_⟩
       ·rw [Q6 HP 0,Q6 HP 1,Q6 HP 2]
        exact ((Q6 HB).flag _).below (Q2x ((Below.refl _ _).alloc (Nat.le_refl _) _))
       ·exact ((Q2x ((Below.refl _ _).alloc (Nat.le_refl _) _)).block N (by rw [Q0l]; exact Qb (Q6 HR))).trans ((Qf (show N≠N+1 by omega) _ _).trans (Q6 HR))
    ·have hp:=fun p=>Q6 HEarly p j (by omega) cj
     have HP:=Qa hp
     obtain ⟨hne,hpart,_⟩:=hmem
     have HNe:=Qa hne
     have hflag:Q0P x.sets c F (j+1)=Q0P x.sets c F j:=by rw [hst,if_neg (fun h=>cc h.1)]
     have HFl:=Qa hflag
     have E3:=Qa e3
     clear hp hst hne hflag e3
     obtain ⟨P0,hP0⟩:∃ P,pTo x.sets c 0 j=P:=⟨_,rfl⟩
     obtain ⟨P1,hP1⟩:∃ P,pTo x.sets c 1 j=P:=⟨_,rfl⟩
     obtain ⟨P2,hP2⟩:∃ P,pTo x.sets c 2 j=P:=⟨_,rfl⟩
     obtain ⟨f,hf⟩:∃ f,Q0P x.sets c F j=f:=⟨_,rfl⟩
     have hq0:=Q6 HP 0
     have hq1:=Q6 HP 1
     have hq2:=Q6 HP 2
     have hfl2:=Q6 HFl
     rw [hf] at HB b1 hfl2 hlt
     rw [hP0] at HB hq0 b3
     rw [hP1] at HB hq1 b4
     rw [hP2] at HB hq2 b5
     have HFl2:=Qa hfl2
     have k0:=Q6 HLen 0 j
     have k1:=Q6 HLen 1 j
     have k2:=Q6 HLen 2 j
     rw [hP0] at k0
     rw [hP1] at k1
     rw [hP2] at k2
     have kl:x.sets[j].l.length≤(x.sets.flatMap ST.l).length:=by
      have:=QfE (List.singleton_sublist.2 (List.getElem_mem cj))
      simpa using this
     clear HP HFl hfl2 hP0 hP1 hP2 hf
     generalize x.sets[j]=s at *
     obtain ⟨sp,sk,sl⟩:=s
     simp only at e0 e1 e2 E3 e4 hpart HNe hq0 hq1 hq2 kl
     have hthree:sp=0∨sp=1∨sp=2:=by omega
     rcases hthree with rfl | rfl | rfl
     ·have HQ:Hid (pTo x.sets c 0 (j+1)=P0++sl∧pTo x.sets c 1 (j+1)=P1∧pTo x.sets c 2 (j+1)=P2):=⟨hq0.1 rfl,hq1.2 (by decide),hq2.2 (by decide)⟩
      clear hq0 hq1 hq2
      have hbx:Below wr.heap.size wr (wr.alloc (.cells #[.int .i64 (0:Nat),.int .i64 sk,.slice a5 sl.length c5] 201)):=(Below.refl _ _).alloc (Nat.le_refl _) _
      have HBx:=Qa ((Q6 HB).below hbx)
      have Hbx:=Qa hbx
      have hRecx:=(Q6 E3).below hbx
      have HRecx:=Qa hRecx
      clear hbx hRecx HB
      go_wp2_with (at_builtin; refine Qe _ rfl _ _ 27 27 rfl w.heap.size 61 i0 (.agg #[.string ⟨#[]⟩,.int .i64 0,.int .i64 0,.int .i64 0,.string ⟨#[]⟩]) 5 56 Tryz.underlying27 (Q6 Hi) (Q6 Hz0) (Q6 Hz1) (Q6 Hz2) rfl (.slice a2 P0.length c2) P0.length (rcI P0) (by rfl) (Q6 HBx).o2 (.slice a5 sl.length c5) sl.length (rcI sl) (by rfl) (Qcn c5 (Q6 HRecx) (Q6 HNe)) (by unfold maxLen; omega) (by omega) (by simp; omega) ?_; intro a1 e1 w2 hown2 hgrow2 hat2; have hm2:=Q02 (Q6 HBx).o2 hgrow2 (Q6 HBx).m (by decide); obtain ⟨⟨n0,n1,n2,n3,n4,n5⟩,p0,p1,p2,p3,p4,p5⟩:=Qh hm2; have hl9:=Qb hm2)
      go_roundg (x.sets.length+1 - (j+1))
      case measure=>omega
      case rel =>
       obtain ⟨u0,u1,u2⟩:=Q6 HQ
       refine ⟨j+1,a1,e1,a3,c3,a4,c4,by go_num,by omega,rfl,Qa ?_,Qa ?_⟩
       ·rw [u0,u1,u2,Q6 HFl2]
        exact (Q6 HBx).app0 hown2 hgrow2 hat2
       ·exact (Qf (show N≠N+1 by omega) _ _).trans (Q02 (Q6 HBx).o2 hgrow2 (((Q6 Hbx).block N (Qb (Q6 HR))).trans (Q6 HR)) (by decide))
     ·have HQ:Hid (pTo x.sets c 0 (j+1)=P0∧pTo x.sets c 1 (j+1)=P1++sl∧pTo x.sets c 2 (j+1)=P2):=⟨hq0.2 (by decide),hq1.1 rfl,hq2.2 (by decide)⟩
      clear hq0 hq1 hq2
      have hbx:Below wr.heap.size wr (wr.alloc (.cells #[.int .i64 (1:Nat),.int .i64 sk,.slice a5 sl.length c5] 201)):=(Below.refl _ _).alloc (Nat.le_refl _) _
      have HBx:=Qa ((Q6 HB).below hbx)
      have Hbx:=Qa hbx
      have hRecx:=(Q6 E3).below hbx
      have HRecx:=Qa hRecx
      clear hbx hRecx HB
      go_wp2_with (at_builtin; refine Qe _ rfl _ _ 27 27 rfl w.heap.size 61 i0 (.agg #[.string ⟨#[]⟩,.int .i64 0,.int .i64 0,.int .i64 0,.string ⟨#[]⟩]) 5 56 Tryz.underlying27 (Q6 Hi) (Q6 Hz0) (Q6 Hz1) (Q6 Hz2) rfl (.slice a3 P1.length c3) P1.length (rcI P1) (by rfl) (Q6 HBx).o3 (.slice a5 sl.length c5) sl.length (rcI sl) (by rfl) (Qcn c5 (Q6 HRecx) (Q6 HNe)) (by unfold maxLen; omega) (by omega) (by simp; omega) ?_; intro a1 e1 w2 hown2 hgrow2 hat2; have hm2:=Q02 (Q6 HBx).o3 hgrow2 (Q6 HBx).m (by decide); obtain ⟨⟨n0,n1,n2,n3,n4,n5⟩,p0,p1,p2,p3,p4,p5⟩:=Qh hm2; have hl9:=Qb hm2)
      go_roundg (x.sets.length+1 - (j+1))
      case measure=>omega
      case rel =>
       obtain ⟨u0,u1,u2⟩:=Q6 HQ
       refine ⟨j+1,a2,c2,a1,e1,a4,c4,by go_num,by omega,rfl,Qa ?_,Qa ?_⟩
       ·rw [u0,u1,u2,Q6 HFl2]
        exact (Q6 HBx).app1 hown2 hgrow2 hat2
       ·exact (Qf (show N≠N+1 by omega) _ _).trans (Q02 (Q6 HBx).o3 hgrow2 (((Q6 Hbx).block N (Qb (Q6 HR))).trans (Q6 HR)) (by decide))
     ·have HQ:Hid (pTo x.sets c 0 (j+1)=P0∧pTo x.sets c 1 (j+1)=P1∧pTo x.sets c 2 (j+1)=P2++sl):=⟨hq0.2 (by decide),hq1.2 (by decide),hq2.1 rfl⟩
      clear hq0 hq1 hq2
      have hbx:Below wr.heap.size wr (wr.alloc (.cells #[.int .i64 (2:Nat),.int .i64 sk,.slice a5 sl.length c5] 201)):=(Below.refl _ _).alloc (Nat.le_refl _) _
      have HBx:=Qa ((Q6 HB).below hbx)
      have Hbx:=Qa hbx
      have hRecx:=(Q6 E3).below hbx
      have HRecx:=Qa hRecx
      clear hbx hRecx HB
      go_wp2_with (at_builtin; refine Qe _ rfl _ _ 27 27 rfl w.heap.size 61 i0 (.agg #[.string ⟨#[]⟩,.int .i64 0,.int .i64 0,.int .i64 0,.string ⟨#[]⟩]) 5 56 Tryz.underlying27 (Q6 Hi) (Q6 Hz0) (Q6 Hz1) (Q6 Hz2) rfl (.slice a4 P2.length c4) P2.length (rcI P2) (by rfl) (Q6 HBx).o4 (.slice a5 sl.length c5) sl.length (rcI sl) (by rfl) (Qcn c5 (Q6 HRecx) (Q6 HNe)) (by unfold maxLen; omega) (by omega) (by simp; omega) ?_; intro a1 e1 w2 hown2 hgrow2 hat2; have hm2:=Q02 (Q6 HBx).o4 hgrow2 (Q6 HBx).m (by decide); obtain ⟨⟨n0,n1,n2,n3,n4,n5⟩,p0,p1,p2,p3,p4,p5⟩:=Qh hm2; have hl9:=Qb hm2)
      go_roundg (x.sets.length+1 - (j+1))
      case measure=>omega
      case rel =>
       obtain ⟨u0,u1,u2⟩:=Q6 HQ
       refine ⟨j+1,a2,c2,a3,c3,a1,e1,by go_num,by omega,rfl,Qa ?_,Qa ?_⟩
       ·rw [u0,u1,u2,Q6 HFl2]
        exact (Q6 HBx).app2 hown2 hgrow2 hat2
       ·exact (Qf (show N≠N+1 by omega) _ _).trans (Q02 (Q6 HBx).o4 hgrow2 (((Q6 Hbx).block N (Qb (Q6 HR))).trans (Q6 HR)) (by decide))
   ·have ej:j=x.sets.length:=by omega
    subst ej
    clear hs1'
    have HOp:Hid ((x.opt=false→Q0o x=[])∧(x.opt=true→Q0o x=[Q7O x.told])):=⟨fun h=>by unfold Q0o; rw [h]; rfl,fun h=>by unfold Q0o; rw [h]; rfl⟩
    cases ho:x.opt with
    | false =>
     rw [ho] at x4
     have hop:=(Q6 HOp).1 ho
     have HOp2:=Qa hop
     clear hop HOp ho
     obtain rfl:=Q6 HVq
     obtain ⟨⟨r0,r1,r2,r3,r4,r5⟩,s0,s1,s2,s3,s4,s5⟩:=Qh (Q6 HR)
     have hltR:=Qb (Q6 HR)
     have hres:=Qbs (c:=c) (Q6 HQ1) hq2 (Q6 HQ3) (Q6 HS2) (Q6 HB) (by rw [Q6 HFe]) rfl rfl (by rw [Q6 HOp2,List.append_nil]) (Q6 HR) (by omega)
     have hcell:=Q4T (Q6 HR) (.int .i64 (x.id:Nat)) (.int .i64 ((Q0P x.sets c F x.sets.length:Nat):Int)) (.slice aq x.q.length cq) (.slice a2 (pTo x.sets c 0 x.sets.length).length c2) (.slice a3 (pTo x.sets c 1 x.sets.length).length c3) (.slice a4 (pTo x.sets c 2 x.sets.length).length c4)
     have HRes:=Qa hres
     have HCell:=Qa hcell
     clear hres hcell HLt HStp HLate HEarly HLen HP0
     go_wp2_with fail
     obtain ⟨⟨g0,g1,g2,g3,g4,g5⟩,_⟩:=Qh (Q6 HCell)
     refine bodyPost_ret (v:=.agg #[.int .i64 (x.id:Nat),.int .i64 ((Q0P x.sets c F x.sets.length:Nat):Int),.slice aq x.q.length cq,.slice a2 (pTo x.sets c 0 x.sets.length).length c2,.slice a3 (pTo x.sets c 1 x.sets.length).length c3,.slice a4 (pTo x.sets c 2 x.sets.length).length c4]) (by simp [results,Tryz.results140,go_sem,g0,g1,g2,g3,g4,g5]) rfl ?_
     exact Q6 HRes
    | true =>
     rw [ho] at x4
     have hop:=(Q6 HOp).2 ho
     have HOp2:=Qa hop
     have ko:=Qmm X x wr ((Q6 HRp).below (Q6 HB).b)
     have KO:=Qa ko
     have hk2:=Q6 HLen 2 x.sets.length
     clear hop HOp ho ko
     obtain rfl:=Q6 HVq
     clear HLt HStp HLate HEarly HLen HP0
     go_wp2_with fail
     refine (Q6 KO).mono ?_
     rintro e w1 ⟨rfl,hb1⟩
     have hbo:Below w1.heap.size w1 ((w1.alloc (.cells #[.string ⟨#[0]⟩,.int .i64 41,.int .i64 4096,.int .i64 ((x.told:Int) / 16 * 16777216),.string ⟨#[]⟩] 61)).alloc (.cells #[.string ⟨#[0]⟩,.int .i64 41,.int .i64 4096,.int .i64 ((x.told:Int) / 16 * 16777216),.string ⟨#[]⟩] 61)):=((Below.refl _ _).alloc (Nat.le_refl _) _).alloc (by simp) _
     have hB1:=(Q6 HB).below hb1
     have hB3:=hB1.below hbo
     have hR1:=(hb1.block N (Qb (Q6 HR))).trans (Q6 HR)
     have hR3:=(hbo.block N (Qb hR1)).trans hR1
     obtain ⟨⟨t0,t1,t2,t3,t4,t5⟩,v0,v1,v2,v3,v4,v5⟩:=Qh hB1.m
     have hltM1:=Qb hB1.m
     have HB3:=Qa hB3
     have HR3:=Qa hR3
     have hor9:((x.told / 16 * 16777216:Nat):Int)=(x.told:Int) / 16 * 16777216:=by omega
     have Hor9:=Qa hor9
     clear hbo hB1 hB3 hR1 hR3 hb1 b0 b1 b2 b3 b4 b5 z0 z1 z2 z3 z4 z5 x0 x1 x2 x3 x4 x5 x6 y0 y1 y2 y3 y4 y5 y6 hor9 HB
     generalize hQ2:pTo x.sets c 2 x.sets.length=Q2 at *
     have HQ2:=Qa hQ2
     clear hQ2
     go_wp2_with (at_builtin; refine Qe _ rfl _ _ 27 27 rfl w.heap.size 61 i0 (.agg #[.string ⟨#[]⟩,.int .i64 0,.int .i64 0,.int .i64 0,.string ⟨#[]⟩]) 5 56 Tryz.underlying27 (Q6 Hi) (Q6 Hz0) (Q6 Hz1) (Q6 Hz2) rfl (.slice a4 Q2.length c4) Q2.length (rcI Q2) (by rfl) (Q6 HB3).o4 (.slice (some ⟨w1.heap.size+1,0,none⟩) 1 1) 1 [.string ⟨#[0]⟩,.int .i64 41,.int .i64 4096,.int .i64 ((x.told:Int) / 16 * 16777216),.string ⟨#[]⟩] (by rfl) (Src.ofSlice _ Tryz.underlying27 ⟨w1.heap.size+1,0,none⟩ 1 1 _ rfl (Q0E _ _ _ _ _ _ _ _ (by simp)) Qa1) (by unfold maxLen; omega) (by omega) (by simp; omega) ?_; intro a1 e1 w2 hown2 hgrow2 hat2; have hm2:=Q02 (Q6 HB3).o4 hgrow2 (Q6 HB3).m (by decide); obtain ⟨⟨n0,n1,n2,n3,n4,n5⟩,p0,p1,p2,p3,p4,p5⟩:=Qh hm2; have hl9:=Qb hm2; have hR9:=Q02 (Q6 HB3).o4 hgrow2 (Q6 HR3) (by decide); obtain ⟨⟨r0,r1,r2,r3,r4,r5⟩,s0,s1,s2,s3,s4,s5⟩:=Qh hR9; have hlr:=Qb hR9)
     have eo:rcI [Q7O x.told]=[.string ⟨#[0]⟩,.int .i64 41,.int .i64 4096,.int .i64 ((x.told:Int) / 16 * 16777216),.string ⟨#[]⟩]:=by
      rw [←Q6 Hor9]
      rfl
     rw [←eo] at hown2
     have hMB9:=(Q6 HB3).app2 (l:=[Q7O x.told]) (a:=a1) (c:=e1) hown2 hgrow2 hat2
     have hR8:=(Qf (w:=w2) (show N≠N+1 by omega) 5 (.slice a1 (Q2.length+1) e1)).trans hR9
     have hres:=Qbs (c:=c) (Q6 HQ1) hq2 (Q6 HQ3) (Q6 HS2) hMB9 (by rw [Q6 HFe]) rfl rfl (by rw [Q6 HOp2,Q6 HQ2]) hR8 (by omega)
     have el:(Q2++[Q7O x.told]).length=Q2.length+1:=by simp
     rw [el] at hres
     have hcell:=Q4T hR8 (.int .i64 (x.id:Nat)) (.int .i64 ((Q0P x.sets c F x.sets.length:Nat):Int)) (.slice aq x.q.length cq) (.slice a2 (pTo x.sets c 0 x.sets.length).length c2) (.slice a3 (pTo x.sets c 1 x.sets.length).length c3) (.slice a1 (Q2.length+1) e1)
     obtain ⟨⟨g0,g1,g2,g3,g4,g5⟩,_⟩:=Qh hcell
     refine bodyPost_ret (v:=.agg #[.int .i64 (x.id:Nat),.int .i64 ((Q0P x.sets c F x.sets.length:Nat):Int),.slice aq x.q.length cq,.slice a2 (pTo x.sets c 0 x.sets.length).length c2,.slice a3 (pTo x.sets c 1 x.sets.length).length c3,.slice a1 (Q2.length+1) e1]) (by simp [results,Tryz.results140,go_sem,g0,g1,g2,g3,g4,g5]) rfl ?_
     exact hres
set_option maxRecDepth 100000 in
set_option maxHeartbeats 2000000 in
theorem Qll (X:Nat) (x:Rep) (c:Nat) (w:World) (h:Rp w X x) (hc:c≤134217720) :
  Calls Tryz.prog 167 #[.pointer (some ⟨X,0,none⟩),.int .i64 (c:Nat)] w fun e w'=>Q1V (Fit x c) e∧Below w.heap.size w w':=by
 have km:=Qbr X x c w h hc
 have KM:=Qa km
 have HRp:=Qa h
 have HFt:Hid (Fit x c↔Q1A (Q0A x c)∧(Q3m (Q0A x c).nat).1.size≤65535∧(Q3m (Q0A x c).nat).1.size≤x.lim):=Iff.rfl
 have HSer:Hid (∀ s e,SerIs (Q0A x c) s e→(e≠0∧¬ Fit x c)∨(e=0∧s.size≤65535∧(s.size≤x.lim↔Fit x c))):=by
  intro s e hs
  rcases hs with ⟨h1,h2,h3⟩ | ⟨h1,h2,h3,h4⟩ | ⟨h1,h2,h3,h4⟩
  ·exact .inl ⟨by omega,fun k=>h1 k.1⟩
  ·exact .inl ⟨by omega,fun k=>by have:=k.2.1; omega⟩
  ·subst h3
   exact .inr ⟨h4,by omega,⟨fun k=>⟨h1,by omega,k⟩,fun k=>k.2.2⟩⟩
 have ks:=fun (W:World) (v:Value) (hm:MsgAt W W.heap.size v (Q0A x c))=>Q3D (Q0A x c) v W hm
 have KS:=Qa ks
 clear km h ks HFt
 generalize Fit x c=FT at *
 generalize Q0A x c=m at *
 go_enter Tryz.func167,Tryz.ntmps167
 go_wp2_with fail
 refine (Q6 KM).mono ?_
 rintro e w1 ⟨v,rfl,hm1,hb1⟩
 have hm2:=fun o=>(hm1.below (show Below w1.heap.size w1 (w1.alloc o) from (Below.refl _ _).alloc (Nat.le_refl _) _)).mono (show w1.heap.size≤(w1.alloc o).heap.size by simp)
 have HM2:=Qa hm2
 have HB1:=Qa hb1
 have HRp1:=Qa ((Q6 HRp).below hb1)
 obtain ⟨a1,c1,a2,c2,a3,c3,a4,c4,rfl,_⟩:=hm1
 clear hm2 hb1 KM HRp
 go_wp2_with fail
 refine (Q6 KS _ _ (Q6 HM2 _)).mono ?_
 rintro e w2 ⟨⟨s,er,rfl,hs⟩,hb2⟩
 have hb12:=((Below.refl w1.heap.size w1).alloc (Nat.le_refl _) (.cells #[.int .i64 m.id,.int .i64 m.flags,.slice a1 m.q.length c1,.slice a2 m.a.length c2,.slice a3 m.u.length c3,.slice a4 m.x.length c4] 32)).trans (hb2.mono (by simp))
 have hRp2:=(Q6 HRp1).below hb12
 obtain ⟨aq,cq,a,cc,hX,_,_,_,_,_,_,_,_,_,hlm⟩:=hRp2
 obtain ⟨⟨x0,x1,x2,x3,x4,x5,x6⟩,y0,y1,y2,y3,y4,y5,y6⟩:=Q22 hX
 have hlt:=Qb hX
 have HB2:=Qa ((Q6 HB1).trans (hb12.mono (Q6 HB1).size))
 have hser:=Q6 HSer s er hs
 clear hX hb12 hb2 hs HM2 HB1 HSer
 rcases hser with ⟨h1,h2⟩ | ⟨h1,h2,h3⟩
 ·have f1:(er == 0)=false:=beq_eq_false_iff_ne.2 h1
  have H2:=Qa h2
  clear h1 h2
  go_wp2_with fail
  go_ret
  exact ⟨⟨_,rfl,⟨fun k=>by simp at k,fun k=>absurd k (Q6 H2)⟩⟩,Q6 HB2⟩
 ·subst h1
  have H3:=Qa h3
  clear h3
  by_cases k:s.size≤x.lim
  ·have f2:decide ((s.size:Int)≤(x.lim:Int))=true:=decide_eq_true (by omega)
   have H4:=Qa ((Q6 H3).1 k)
   go_wp2_with fail
   go_ret
   exact ⟨⟨_,rfl,⟨fun _=>Q6 H4,fun _=>by first | rfl | simp; omega⟩⟩,Q6 HB2⟩
  ·have f2:decide ((s.size:Int)≤(x.lim:Int))=false:=decide_eq_false (by omega)
   have H4:=Qa (fun q=>k ((Q6 H3).2 q))
   go_wp2_with fail
   go_ret
   exact ⟨⟨_,rfl,⟨fun q=>by first | (simp at q; done) | (simp at q; omega),fun q=>absurd q (Q6 H4)⟩⟩,Q6 HB2⟩
def Qhz (w:World) (x:Rep) (e:Ending) (w':World):Prop:=∃ c:Nat,e=.returned (.int .i64 c)∧Q3o x c∧Below w.heap.size w w'
set_option maxRecDepth 100000 in
set_option maxHeartbeats 2000000 in
theorem QgB (X:Nat) (x:Rep) (w:World) (h:Rp w X x) :
  Calls Tryz.prog 139 #[.pointer (some ⟨X,0,none⟩)] w fun e w'=>Qhz w x e w':=by
 have kf:=fun (W:World) (c:Nat) (h:Rp W X x) (hc:c≤134217720)=>Qll X x c W h hc
 have KF:=Qa kf
 have HRp:=Qa h
 obtain ⟨aq,cq,a,cc,hX,_,_,_,_,_,hl,_⟩:=h
 obtain ⟨⟨x0,x1,x2,x3,x4,x5,x6⟩,y0,y1,y2,y3,y4,y5,y6⟩:=Q22 hX
 have hlt:=Qb hX
 have HDef:Hid (∀ c,c≤x.sets.length→(c=0∨Fit x c)→(c=x.sets.length∨¬ Fit x (c+1))→Q3o x c):=fun c h1 h2 h3=>⟨h1,h2,h3⟩
 clear kf hX
 go_enter Tryz.func139,Tryz.ntmps139
 go_wp2_with fail
 go_loopg [3,4] x.sets.length (fun g vl vm w'=>∃ (p q:Nat),vl=.int .i64 p∧vm=.int .i64 q∧p≤q∧q≤x.sets.length∧g=q - p∧Hid (p=0∨Fit x p)∧Hid (q=x.sets.length∨¬ Fit x (q+1))∧Hid (Below w.heap.size w w'))
 case atStart=>exact ⟨0,x.sets.length,rfl,rfl,Nat.zero_le _,Nat.le_refl _,rfl,Qa (.inl rfl),Qa (.inl rfl),Qa (Below.refl _ _)⟩
 case round =>
  obtain ⟨p,q,rfl,rfl,hpq,hqn,rfl,HP,HQ,HB⟩:=hrel
  by_cases cpq:p < q
  ·obtain ⟨m,hm⟩:∃ m:Nat,m=q - (q - p) / 2:=⟨_,rfl⟩
   have hm1:p < m:=by omega
   have hm2:m≤q:=by omega
   have hmi:(q:Int) - ((q:Int) - (p:Int)) / 2=(m:Int):=by omega
   have hmt:((q:Int) - (p:Int)).tdiv 2=((q:Int) - (p:Int)) / 2:=Int.tdiv_eq_ediv_of_nonneg (by omega)
   have k1:=Q6 KF wr m ((Q6 HRp).below (Q6 HB)) (by omega)
   have K1:=Qa k1
   clear k1 hm
   go_wp2_with fail
   refine (Q6 K1).mono ?_
   rintro e w1 ⟨⟨b,rfl,hb⟩,hb1⟩
   have HB1:=Qa ((Q6 HB).trans (hb1.mono (Q6 HB).size))
   have Hb:=Qa hb
   clear hb hb1
   cases b with
   | true =>
    have H1:=Qa ((Q6 Hb).1 rfl)
    go_wp2_with fail
    go_roundg (q - m)
    case measure=>omega
    case rel=>exact ⟨m,q,rfl,rfl,hm2,hqn,rfl,Qa (.inr (Q6 H1)),HQ,HB1⟩
   | false =>
    have H1:Hid (¬ Fit x m):=Qa fun k=>absurd ((Q6 Hb).2 k) (by simp)
    go_wp2_with fail
    go_roundg (m - 1 - p)
    case measure=>omega
    case rel=>exact ⟨p,m - 1,rfl,by go_num,by omega,by omega,rfl,HP,Qa (.inr (by rw [show m - 1+1=m by omega]; exact Q6 H1)),HB1⟩
  ·have e:p=q:=by omega
   subst e
   go_wp2_with fail
   go_ret
   exact ⟨p,rfl,Q6 HDef p hqn (Q6 HP) (Q6 HQ),Q6 HB⟩
def Qhy (w:World) (x:Rep) (e:Ending) (w':World):Prop:=∃ s,e=.returned (.string s)∧(∃ c er,Q3o x c∧SerIs (Q0A x c) s er)∧Below w.heap.size w w'
set_option maxRecDepth 100000 in
set_option maxHeartbeats 2000000 in
theorem Qfr (X:Nat) (x:Rep) (w:World) (h:Rp w X x) :
  Calls Tryz.prog 102 #[.pointer (some ⟨X,0,none⟩)] w fun e w'=>Qhy w x e w':=by
 have kf:=QgB X x w h
 have KF:=Qa kf
 have HRp:=Qa h
 obtain ⟨aq,cq,a,cc,hX,_,_,_,_,_,hl,_⟩:=h
 have hlt:=Qb hX
 clear kf hX
 go_enter Tryz.func102,Tryz.ntmps102
 go_wp2_with fail
 refine (Q6 KF).mono ?_
 rintro e w0 ⟨c,rfl,hfit,hb0⟩
 have HFit:=Qa hfit
 have hc:=hfit.1
 have HRp0:=Qa ((Q6 HRp).below hb0)
 have HB0:=Qa hb0
 have km:=Qbr X x c w0 (Q6 HRp0) (by omega)
 have KM:=Qa km
 have HRes:Hid (∀ s er,SerIs (Q0A x c) s er→∃ c er,Q3o x c∧SerIs (Q0A x c) s er):=Qa fun s er h=>⟨c,er,Q6 HFit,h⟩
 have HSer:Hid (∀ s e,SerIs (Q0A x c) s e→(e≠0∧s=⟨#[]⟩)∨e=0):=by
  intro s e hs
  rcases hs with ⟨h1,h2,h3⟩ | ⟨h1,h2,h3,h4⟩ | ⟨h1,h2,h3,h4⟩
  ·exact .inl ⟨by omega,h2⟩
  ·exact .inl ⟨by omega,h3⟩
  ·exact .inr h4
 have ks:=fun (W:World) (v:Value) (hm:MsgAt W W.heap.size v (Q0A x c))=>Q3D (Q0A x c) v W hm
 have KS:=Qa ks
 clear km ks hfit hb0 KF HFit HRp HRp0
 generalize Q0A x c=m at *
 go_wp2_with fail
 refine (Q6 KM).mono ?_
 rintro e w1 ⟨v,rfl,hm1,hb1⟩
 have hm2:=fun o=>(hm1.below (show Below w1.heap.size w1 (w1.alloc o) from (Below.refl _ _).alloc (Nat.le_refl _) _)).mono (show w1.heap.size≤(w1.alloc o).heap.size by simp)
 have HM2:=Qa hm2
 have HB1:=Qa ((Q6 HB0).trans (hb1.mono (Q6 HB0).size))
 obtain ⟨a1,c1,a2,c2,a3,c3,a4,c4,rfl,_⟩:=hm1
 clear hm2 hb1 KM
 go_wp2_with fail
 refine (Q6 KS _ _ (Q6 HM2 _)).mono ?_
 rintro e w2 ⟨⟨s,er,rfl,hs⟩,hb2⟩
 have hb12:=((Below.refl w1.heap.size w1).alloc (Nat.le_refl _) (.cells #[.int .i64 m.id,.int .i64 m.flags,.slice a1 m.q.length c1,.slice a2 m.a.length c2,.slice a3 m.u.length c3,.slice a4 m.x.length c4] 32)).trans (hb2.mono (by simp))
 have HB2:=Qa ((Q6 HB1).trans (hb12.mono (Q6 HB1).size))
 have hser:=Q6 HSer s er hs
 have HS:=Qa (Q6 HRes s er hs)
 clear hb12 hb2 hs HM2 HB1 HSer
 rcases hser with ⟨h1,h2⟩ | h1
 ·subst h2
  have f1:(er != 0)=true:=by rw [bne_iff_ne]; exact h1
  clear h1
  go_wp2_with fail
  go_ret
  exact ⟨_,rfl,Q6 HS,Q6 HB2⟩
 ·subst h1
  go_wp2_with fail
  go_ret
  exact ⟨_,rfl,Q6 HS,Q6 HB2⟩
set_option maxRecDepth 100000 in
theorem Qkk (cls:Nat) (stream:Bool) (w:World):Calls Tryz.prog 136 #[.int .i64 (cls:Nat),.bool stream] w fun e w'=>e=.returned (.int .i64 (Q4v cls stream:Nat))∧w'=w:=by
 cases stream with
 | true =>
  have e:Q4v cls true=65535:=rfl
  rw [e]
  go_enter Tryz.func136,Tryz.ntmps136
  go_wp2_with fail
  go_ret
  exact ⟨rfl,rfl⟩
 | false =>
  by_cases c1:cls < 512
  ·have e:Q4v cls false=512:=by unfold Q4v; simp [c1]
   rw [e]
   go_enter Tryz.func136,Tryz.ntmps136
   go_wp2_with fail
   go_ret
   exact ⟨rfl,rfl⟩
  ·by_cases c2:4096 < cls
   ·have e:Q4v cls false=4096:=by unfold Q4v; simp [c1,c2]
    rw [e]
    go_enter Tryz.func136,Tryz.ntmps136
    go_wp2_with fail
    go_ret
    exact ⟨rfl,rfl⟩
   ·have e:Q4v cls false=cls:=by unfold Q4v; simp [c1,c2]
    rw [e]
    go_enter Tryz.func136,Tryz.ntmps136
    go_wp2_with fail
    go_ret
    exact ⟨rfl,rfl⟩
def Qge:RI:=⟨⟨#[]⟩,0,0,0,⟨#[]⟩⟩
def Qla (w:World) (l:List RI) (e:Ending) (w':World):Prop :=
 ∃ r:RI,e=.returned (.tuple #[.agg #[.string r.name,.int .i64 r.ty,.int .i64 r.cl,.int .i64 r.ttl,.string r.data],.bool (Q12 l).isSome])∧r=(Q12 l).getD Qge∧Below w.heap.size w w'
set_option maxRecDepth 100000 in
set_option maxHeartbeats 2000000 in
theorem QgY (l:List RI) (a:Option Addr) (c:Nat) (w:World) (hrow:RowAt w w.heap.size a (rcI l)) (hl:l.length≤134217728) :
  Calls Tryz.prog 135 #[.slice a l.length c] w fun e w'=>Qla w l e w':=by
 have HY:Hid (∀ j (hj:j < l.length),(∀ m (hm:m < l.length),m < j→l[m].ty≠41)→l[j].ty=41→Q12 l=some l[j]):=fun j hj k e=>by
  unfold Q12
  rw [List.find?_eq_some_iff_getElem]
  exact ⟨decide_eq_true e,j,hj,rfl,fun m hm=>by simpa using k m (by omega) hm⟩
 have HNo:Hid ((∀ m (hm:m < l.length),l[m].ty≠41)→Q12 l=none):=fun k=>by
  unfold Q12
  rw [List.find?_eq_none]
  intro x hx
  obtain ⟨i,hi,rfl⟩:=List.mem_iff_getElem.1 hx
  simpa using k i hi
 have hB:Below w.heap.size w (w.alloc (.cells #[.string ⟨#[]⟩,.int .i64 0,.int .i64 0,.int .i64 0,.string ⟨#[]⟩] 61)):=(Below.refl _ _).alloc (Nat.le_refl _) _
 have hA:=heap_alloc_new w (.cells #[.string ⟨#[]⟩,.int .i64 0,.int .i64 0,.int .i64 0,.string ⟨#[]⟩] 61)
 have HRow:=Qa (hrow.below hB)
 have HB:=Qa hB
 have HA:=Qa hA
 have hN:w.heap.size=w.heap.size:=rfl
 clear hrow hB hA hN
 go_enter Tryz.func135,Tryz.ntmps135
 go_wp2_with fail
 generalize hW:w.alloc (.cells #[.string ⟨#[]⟩,.int .i64 0,.int .i64 0,.int .i64 0,.string ⟨#[]⟩] 61)=W at *
 clear hW
 go_loop [4] (fun i=>∃ j:Nat,j≤l.length∧i=.int .i64 j∧Hid (∀ m (hm:m < l.length),m < j→l[m].ty≠41)) (fun i=>l.length - (intOf i).toNat)
 case atStart=>exact ⟨0,Nat.zero_le _,rfl,Qa fun m _ hm=>by omega⟩
 case round =>
  obtain ⟨j,hj,rfl,HL⟩:=hrel
  by_cases cj:j < l.length
  ·obtain ⟨b,o,rfl,hb,x0,x1,x2,x3,x4⟩:=Q2R (Q6 HRow) j cj
   have hy:=Q6 HY j cj (Q6 HL)
   have HNx:Hid (l[j].ty≠41→∀ m (hm:m < l.length),m < j+1→l[m].ty≠41):=Qa fun h1 m hm hm2=>by
    rcases Nat.lt_or_ge m j with k | k
    ·exact Q6 HL m hm k
    ·have:m=j:=by omega
     subst this
     exact h1
   clear HL HY
   generalize l[j]=s at *
   obtain ⟨nm,ty,kl,ttl,dt⟩:=s
   simp only at x0 x1 x2 x3 x4 hy HNx
   by_cases ck:ty=41
   ·have HR:=Qa (hy ck)
    subst ck
    have hbN:b≠w.heap.size:=by omega
    obtain ⟨⟨b0,b1,b2,b3,b4⟩,y0,y1,y2,y3,y4⟩:=Q1a (Q6 HA)
    have hltA:=Qb (Q6 HA)
    have hf:=Qau (Q6 HA) (.string nm) (.int .i64 41) (.int .i64 kl) (.int .i64 ttl) (.string dt)
    have HFx:=Qa hf
    clear hy HNx hf
    go_wp2_with fail
    obtain ⟨⟨g0,g1,g2,g3,g4⟩,_⟩:=Q1a (Q6 HFx)
    refine bodyPost_ret (v:=.tuple #[.agg #[.string nm,.int .i64 41,.int .i64 kl,.int .i64 ttl,.string dt],.bool true]) (by simp [results,Tryz.results135,go_sem,g0,g1,g2,g3,g4]) rfl ?_
    exact ⟨⟨nm,41,kl,ttl,dt⟩,by rw [Q6 HR]; rfl,by rw [Q6 HR]; rfl,(((((Q6 HB).setCell (Nat.le_refl _) _).setCell (Nat.le_refl _) _).setCell (Nat.le_refl _) _).setCell (Nat.le_refl _) _).setCell (Nat.le_refl _) _⟩
   ·have f2:(ty == 41)=false:=beq_eq_false_iff_ne.2 ck
    have HN2:=Qa (Q6 HNx ck)
    clear ck hy HNx
    go_wp2_with fail
    go_round
    case rel=>exact ⟨j+1,by omega,by go_num,HN2⟩
    case measure=>simp [intOf]; omega
  ·have ej:j=l.length:=by omega
   subst ej
   have HR:=Qa (Q6 HNo fun m hm=>Q6 HL m hm hm)
   clear HNo HY HL
   obtain ⟨⟨b0,b1,b2,b3,b4⟩,y0,y1,y2,y3,y4⟩:=Q1a (Q6 HA)
   have hltA:=Qb (Q6 HA)
   have HFx:=Qa (Qau (Q6 HA) (.string ⟨#[]⟩) (.int .i64 0) (.int .i64 0) (.int .i64 0) (.string ⟨#[]⟩))
   go_wp2_with fail
   obtain ⟨⟨g0,g1,g2,g3,g4⟩,_⟩:=Q1a (Q6 HFx)
   refine bodyPost_ret (v:=.tuple #[.agg #[.string ⟨#[]⟩,.int .i64 0,.int .i64 0,.int .i64 0,.string ⟨#[]⟩],.bool false]) (by simp [results,Tryz.results135,go_sem,g0,g1,g2,g3,g4]) rfl ?_
   exact ⟨Qge,by rw [Q6 HR]; rfl,by rw [Q6 HR]; rfl,(((((Q6 HB).setCell (Nat.le_refl _) _).setCell (Nat.le_refl _) _).setCell (Nat.le_refl _) _).setCell (Nat.le_refl _) _).setCell (Nat.le_refl _) _⟩
set_option maxRecDepth 100000 in
set_option maxHeartbeats 2000000 in
theorem Qhb (flags life:Nat) (q:QI) (w:World) (hf:flags < 65536) (hl:life≤4294967295) (hq:q.name.size≤65535) :
  Calls Tryz.prog 137 #[.int .i64 (flags:Nat),.int .i64 (life:Nat),.agg #[.string q.name,.int .i64 q.ty,.int .i64 q.cl]] w fun e w'=>e=.returned (.int .i64 (Q1o flags life q:Nat))∧Below w.heap.size w w':=by
 have hand:bits .and .i64 (flags:Int) 30720=((flags &&& 30720:Nat):Int):=by
  have:=Q61 flags 30720 hf (by decide)
  simpa using this
 have ks:=fun (W:World)=>Qg3 q.name W (by omega)
 have hsz:=Q6h q.name
 have kw:=fun (W:World)=>QdZ (Q1h q.name) Qm W (by omega)
 have KS:=Qa ks
 have KW:=Qa kw
 have hd1:((life:Int).tdiv 65536)=((life / 65536:Nat):Int):=by rw [Int.tdiv_eq_ediv_of_nonneg (by omega)]; omega
 have hd2:(((life / 65536:Nat):Int)).tmod 256=((life / 65536 % 256:Nat):Int):=by rw [Int.tmod_eq_emod_of_nonneg (by omega)]; omega
 have HR:Hid (Q1o flags life q=if flags &&& 30720≠0 then 4 else if life / 65536 % 256≠0 then 16 else if q.cl≠1∨Q06 (Q1h q.name) Qm 0=false then 5 else 0):=rfl
 clear ks kw
 generalize Q1o flags life q=R at *
 obtain ⟨nm,ty,cl⟩:=q
 simp only at *
 have hbx:Below w.heap.size w (w.alloc (.cells #[.string nm,.int .i64 ty,.int .i64 cl] 91)):=(Below.refl _ _).alloc (Nat.le_refl _) _
 have HBx:=Qa hbx
 clear hbx
 by_cases c1:flags &&& 30720≠0
 ·have hR:=Q6 HR
  rw [if_pos c1] at hR
  subst hR
  have f1:(((flags &&& 30720:Nat):Int) != 0)=true:=by rw [bne_iff_ne]; omega
  clear c1 HR
  generalize flags &&& 30720=fa at *
  go_enter Tryz.func137,Tryz.ntmps137
  go_wp2_with fail
  go_ret
  exact ⟨rfl,Q6 HBx⟩
 ·have hR:=Q6 HR
  rw [if_neg c1] at hR
  have f1:(((flags &&& 30720:Nat):Int) != 0)=false:=by rw [bne_eq_false_iff_eq]; omega
  clear c1 HR
  generalize flags &&& 30720=fa at *
  by_cases c2:life / 65536 % 256≠0
  ·rw [if_pos c2] at hR
   subst hR
   have f2:(((life / 65536 % 256:Nat):Int) != 0)=true:=by rw [bne_iff_ne]; omega
   have f3:((life:Int) / 65536 % 256 != 0)=true:=by rw [bne_iff_ne]; omega
   clear c2
   go_enter Tryz.func137,Tryz.ntmps137
   go_wp2_with fail
   go_ret
   exact ⟨rfl,Q6 HBx⟩
  ·rw [if_neg c2] at hR
   have f2:(((life / 65536 % 256:Nat):Int) != 0)=false:=by rw [bne_eq_false_iff_eq]; omega
   have f3:((life:Int) / 65536 % 256 != 0)=false:=by rw [bne_eq_false_iff_eq]; omega
   clear c2
   have HR2:=Qa hR
   clear hR
   go_enter Tryz.func137,Tryz.ntmps137
   go_wp2_with fail
   refine (Q6 KS _).mono ?_
   rintro e w1 ⟨rfl,hb1⟩
   have hq1:=(hb1.block w.heap.size (by simp)).trans (heap_alloc_new w (.cells #[.string nm,.int .i64 ty,.int .i64 cl] 91))
   obtain ⟨z0,z1,z2,_⟩:=Q4p hq1
   have hlt:=Qb hq1
   have HB1:=Qa ((Q6 HBx).trans (hb1.mono (Q6 HBx).size))
   have kw1:=Q6 KW w1
   clear hb1 hq1 KS KW
   generalize Q1h nm=sn at *
   generalize Q06 sn Qm 0=wi at *
   have KW1:=Qa kw1
   clear kw1
   by_cases c3:cl=1
   ·subst c3
    have f4:((1:Int) != 1)=false:=by decide
    cases wi with
    | true =>
     have hR:=Q6 HR2
     rw [if_neg (by simp)] at hR
     subst hR
     clear HR2
     go_wp2_with fail
     refine (Q6 KW1).mono ?_
     rintro e w' ⟨rfl,rfl⟩
     go_wp2_with fail
     go_ret
     exact ⟨rfl,Q6 HB1⟩
    | false =>
     have hR:=Q6 HR2
     rw [if_pos (.inr rfl)] at hR
     subst hR
     clear HR2
     go_wp2_with fail
     refine (Q6 KW1).mono ?_
     rintro e w' ⟨rfl,rfl⟩
     go_wp2_with fail
     go_ret
     exact ⟨rfl,Q6 HB1⟩
   ·have f4:(cl != 1)=true:=by rw [bne_iff_ne]; exact c3
    have hR:=Q6 HR2
    rw [if_pos (.inl c3)] at hR
    subst hR
    clear HR2 c3
    go_wp2_with fail
    go_ret
    exact ⟨rfl,Q6 HB1⟩
def tot (L:List ST):Nat:=(L.flatMap ST.l).length
theorem Q83 (A B:List ST):tot (A++B)=tot A+tot B:=by unfold tot; rw [List.flatMap_append,List.length_append]
theorem Q6j (z:List RI) (L:List ST) (p:Nat) (n:ByteArray) (t:Int):tot (Q0c z L p n t)≤tot L+z.length:=by
 unfold Q0c
 split
 ·omega
 ·rw [Q83]
  have:=Q3w z n t
  have e:tot [⟨p,t,ofP z n t⟩]=(ofP z n t).length:=by unfold tot; simp
  omega
theorem QcM (p q:RI→Bool) (h:∀ x,¬ (p x=true∧q x=true)):∀ l:List RI,l.countP (fun x=>p x || q x)=l.countP p+l.countP q
 | []=>rfl
 | x :: l=>by
  rw [List.countP_cons,List.countP_cons,List.countP_cons,QcM p q h l]
  have:=h x
  cases hp:p x <;> cases hq:q x <;> simp_all <;> omega
theorem Qg9 (z:List RI) (n:ByteArray):∀ j,tot (Q0f z n [] j)=z.countP (fun x=>decide (x.name=n) && Q0Q (Q0f z n [] j) x.ty)
 | 0=>by
  show 0=_
  symm
  rw [List.countP_eq_zero]
  intro x _
  simp [Q0f,Q0Q]
 | j+1=>by
  have ih:=Qg9 z n j
  rcases Nat.lt_or_ge j z.length with k | k
  ·rw [Q26 z n [] j k]
   by_cases c:z[j].name=n∧Q0Q (Q0f z n [] j) z[j].ty=false
   ·rw [if_pos c]
    unfold Q0c
    split
    ·exact ih
    ·rw [Q83,ih]
     have e:tot [⟨0,z[j].ty,ofP z n z[j].ty⟩]=z.countP (fun x=>decide (x.name=n∧x.ty=z[j].ty)):=by
      unfold tot ofP
      rw [List.countP_eq_length_filter]
      simp
     rw [e,←QcM _ _ (fun x=>by
      rintro ⟨h1,h2⟩
      simp at h1 h2
      rw [h2.2,c.2] at h1
      exact absurd h1.2 (by simp))]
     apply List.countP_congr
     intro x _
     have hs:Q0Q (Q0f z n [] j++[⟨0,z[j].ty,ofP z n z[j].ty⟩]) x.ty=(Q0Q (Q0f z n [] j) x.ty || decide (z[j].ty=x.ty)):=by
      unfold Q0Q
      rw [List.any_append]
      simp
     rw [hs]
     simp only [Bool.or_eq_true,Bool.and_eq_true,decide_eq_true_eq]
     constructor
     ·rintro (⟨a,b⟩ | ⟨a,b⟩)
      ·exact ⟨a,.inl b⟩
      ·exact ⟨a,.inr b.symm⟩
     ·rintro ⟨a,b | b⟩
      ·exact .inl ⟨a,b⟩
      ·exact .inr ⟨a,b.symm⟩
   ·rw [if_neg c]
    exact ih
  ·have e:Q0f z n [] (j+1)=Q0f z n [] j:=by
    show (match z[j]? with | none=>_ | some x=>_:List ST)=_
    rw [List.getElem?_eq_none k]
   rw [e]
   exact ih
theorem Qay (z:List RI) (n:ByteArray) (t:Int):tot (Q0w z [] n t)≤2 * z.length:=by
 unfold Q0w
 split
 ·rw [Qg9]
  have:=List.countP_le_length (p:=fun x=>decide (x.name=n) && Q0Q (Q0f z n [] z.length) x.ty) (l:=z)
  omega
 ·have e0:tot []=0:=rfl
  split
  ·have:=Q6j z [] 0 n 5
   omega
  ·have h1:=Q6j z [] 0 n 5
   have h2:=Q6j z (Q0c z [] 0 n 5) 0 (Q7t z n) t
   omega
theorem Qjv (z:List RI) (n:ByteArray) (t:Int):tot (Q1z z n t)≤3 * z.length:=by
 have h1:=Qay z n t
 unfold Q1z Qb1
 split
 ·omega
 ·have:=Q6j z (Q0w z [] n t) 1 Qm 6
  omega
theorem Q9J (z sv:List RI) (L:List ST) (h:SubZ z L):∀ j,j≤sv.length→tot (Q0a z sv L j).2≤tot L+j∧SubZ z (Q0a z sv L j).2
 | 0,_=>⟨Nat.le_refl _,h⟩
 | j+1,hj=>by
  obtain ⟨i1,i2⟩:=Q9J z sv L h j (by omega)
  obtain ⟨s1,s2⟩:=Q4u z sv L j (by omega)
  rcases Nat.lt_or_ge (Q1Q z (Q0q sv[j].data) (Q0a z sv L j).1) z.length with k | k
  ·rw [s1 k]
   refine ⟨?_,?_⟩
   ·show tot (_++_)≤_
    rw [Q83]
    have:tot [⟨2,z[Q1Q z (Q0q sv[j].data) (Q0a z sv L j).1].ty,[z[Q1Q z (Q0q sv[j].data) (Q0a z sv L j).1]]⟩]=1:=rfl
    omega
   ·intro s hs
    rcases List.mem_append.1 hs with q | q
    ·exact i2 s q
    ·rw [List.mem_singleton] at q
     subst q
     refine ⟨by simp,Nat.le_refl _,by simp only [List.length_cons,List.length_nil]; omega,fun x hx=>?_⟩
     rw [List.mem_singleton] at hx
     subst hx
     exact List.getElem_mem k
  ·rw [s2 k]
   exact ⟨by show tot (Q0a z sv L j).2≤_; omega,i2⟩
theorem QdJ (z:List RI) (n:ByteArray) (t:Int):SubZ z (Q2m z n t)∧tot (Q2m z n t)≤4 * z.length∧(Q2m z n t).length≤2 * z.length+3:=by
 unfold Q2m
 split
 ·have h1:=SubZ.main z n t
  have h2:=h1.services.1
  obtain ⟨h3,h4⟩:=Q9J z (Q0r (Q1z z n t)) _ h1 _ (Nat.le_refl _)
  have h5:=Qjv z n t
  have h6:=(Q9I z (Q0r (Q1z z n t)) (Q1z z n t) (Q0r (Q1z z n t)).length).2
  have h7:=Qd0 z n t
  exact ⟨h4,by unfold Q60; omega,by unfold Q60; omega⟩
 ·unfold Qb1
  have h1:=Q6j z [] 1 Qm 6
  have h2:=Q24 z [] 1 Qm 6
  have h0:tot []=0:=rfl
  simp only [List.length_nil] at h2
  exact ⟨(SubZ.nil z).want 1 (by omega) _ 6,by omega,by omega⟩
theorem QfY (z:List RI) (n:ByteArray) (t:Int) (hz:z.length≤16777216) (hs:Q6o z):Q6W (Q2m z n t)∧(Q2m z n t).length≤134217720:=by
 obtain ⟨h1,h2,h3⟩:=QdJ z n t
 exact ⟨⟨fun s hs'=>⟨(h1 s hs').1,(h1 s hs').2.1,fun x hx=>hs x ((h1 s hs').2.2.2 x hx)⟩,by unfold tot at h2; omega⟩,by omega⟩
theorem Q4M (s:ByteArray) (h:s.size≤15):(Qj s).size≤100:=by
 unfold Qj
 rw [ByteArray.size_append,ByteArray.size_append]
 have e1:(one s.size).size=1:=rfl
 have e2:Qm.size=10:=rfl
 omega
theorem QaB {l:List Ev} {e:Ev} (h:e∈upM l):e.node.size≤15∧e.addr.size≤16∧e.text.size≤60∧e.alias.size≤15:=by
 obtain ⟨i,hi,rfl⟩:=List.mem_iff_getElem.1 h
 obtain ⟨h1,h2,_,_,h5,h6⟩:=Qjz l i hi
 exact ⟨h1,by omega,h5,h6⟩
theorem QaI (l:List Ev):Q6o (Qg l):=by
 intro x hx
 unfold Qg at hx
 rcases List.mem_append.1 hx with h | h
 ·rcases List.mem_append.1 h with h | h
  ·rcases List.mem_append.1 h with h | h
   ·simp only [List.mem_cons,List.mem_nil_iff,or_false] at h
    rcases h with rfl | rfl
    ·refine ⟨by show (10:Nat)≤_; omega,?_⟩
     show (Q5U _).size≤_
     unfold Q5U
     simp only [ByteArray.size_append,Q2C]
     show 13+16+4+4+4+4+4≤_
     omega
    ·exact ⟨by show (10:Nat)≤_; omega,by show (13:Nat)≤_; omega⟩
   ·obtain ⟨u,hu,hx⟩:=List.mem_flatMap.1 h
    obtain ⟨h1,h2,h3,h4⟩:=QaB hu
    have hun:=Q4M u.node h1
    unfold Q0y at hx
    rcases List.mem_cons.1 hx with rfl | hx
    ·exact ⟨by show (Qj u.node).size≤_; omega,by show u.addr.size≤_; omega⟩
    ·split at hx
     ·simp at hx
     ·rw [List.mem_singleton] at hx
      subst hx
      refine ⟨by show (Qj u.node).size≤_; omega,?_⟩
      show (one u.text.size++u.text).size≤_
      rw [ByteArray.size_append]
      show 1+u.text.size≤_
      omega
  ·obtain ⟨u,hu,rfl⟩:=List.mem_map.1 h
   obtain ⟨h1,h2,h3,h4⟩:=QaB (Qfq hu)
   have hun:=Q4M u.node h1
   have hua:=Q4M u.alias h4
   exact ⟨by show (Qj u.alias).size≤_; omega,by show (Qj u.node).size≤_; omega⟩
 ·obtain ⟨u,hu,rfl⟩:=List.mem_map.1 h
  obtain ⟨h1,h2,h3,h4⟩:=QaB hu
  have hun:=Q4M u.node h1
  refine ⟨by show (21:Nat)≤_; omega,?_⟩
  show (q4 0++wd _++Qj u.node).size≤_
  rw [ByteArray.size_append,ByteArray.size_append,Q2C,Q00]
  omega
theorem QaG (l:List Ev):(Qg l).length≤4 * l.length+2:=by
 have h1:=Qcq l
 have h2:=Q52 (upM l) (upM l).length
 rw [List.take_length] at h2
 have h3:=Q7u (upM l) (Q0g (Q0d (upM l))) (Q0g (Q0d (upM l))).length
 rw [Q0Y] at h3
 have h4:=Q4V (upM l) (upM l).length
 rw [List.take_length] at h4
 unfold Qg
 simp only [List.length_append,List.length_map,List.length_cons,List.length_nil]
 rw [Q0Y] at *
 omega
def QueRow (w:World) (a:Option Addr) (l:List QI):Prop :=
 l≠[]→∃ g o cs,a=some ⟨g,o,none⟩∧w.heap[g]? = some (.cells cs 91 (0,0))∧∀ j u,(qcI l)[j]? = some u→cs[o+j]? = some u
theorem QueRow.row {w:World} {a:Option Addr} {l:List QI} (h:QueRow w a l):RowAt w w.heap.size a (qcI l):=by
 intro hx
 obtain ⟨g,o,cs,h1,h2,h3⟩:=h (fun e=>hx (by rw [e]; rfl))
 exact ⟨g,o,h1,Qb h2,fun j u hu=>(Qc h2 (o+j)).trans (h3 j u hu)⟩
theorem QueRow.grown {w w':World} {X:Nat} {a:Option Addr} {l:List QI} (h:QueRow w a l) (hg:w.grownBy w' (some X)) {cs:Array Value} {t:TypeId} {fr:Nat × Nat} (hX:w.heap[X]? = some (.cells cs t fr)) (ht:t≠91):QueRow w' a l:=by
 intro hl
 obtain ⟨g,o,cs',h1,h2,h3⟩:=h hl
 refine ⟨g,o,cs',h1,(hg.block g (Qb h2) (fun e=>?_)).trans h2,h3⟩
 cases e
 rw [hX] at h2
 cases h2
 exact ht rfl
theorem QueRow.below {w w':World} {a:Option Addr} {l:List QI} (h:QueRow w a l) (hb:Below w.heap.size w w'):QueRow w' a l:=by
 intro hl
 obtain ⟨g,o,cs',h1,h2,h3⟩:=h hl
 exact ⟨g,o,cs',h1,(hb.block g (Qb h2)).trans h2,h3⟩
theorem Q1y {w w':World} {X:Nat} (h:Below w.heap.size w w'):w.grownBy w' (some X):=⟨h.os,h.tape,h.output,h.size,fun k hk _=>h.block k hk⟩
theorem Q0M {a b c:World} {X:Nat} (h:a.grownBy b (some X)) (k:b.grownBy c (some X)):a.grownBy c (some X) :=
 ⟨k.os.trans h.os,k.tape.trans h.tape,k.output.trans h.output,Nat.le_trans h.size k.size,fun i h1 h2=>(k.block i (Nat.lt_of_lt_of_le h1 h.size) h2).trans (h.block i h1 h2)⟩
theorem Q8g {w w':World} {X N:Nat} (h:w.grownBy w' (some X)) (hN:N≤X) (hX:X < w.heap.size):Below N w w' :=
 ⟨h.os,h.tape,h.output,h.size,fun k hk=>h.block k (by omega) (fun e=>by cases e; omega)⟩
theorem Sr.set {w:World} {N S:Nat} {az:Option Addr} {cz:Nat} {z:List RI} {L:List ST} (h:Sr w N S az cz z L) {X:Nat} {cs:Array Value} {t:TypeId} (hX:w.heap[X]? = some (.cells cs t (0,0))) (h1:t≠201) (h2:t≠199) (h3:t≠61) (j:Nat) (v:Value):Sr (w.setCell ⟨X,j,none⟩ v) N S az cz z L:=by
 obtain ⟨a,c,xs,k1,k2,k3,k4,k5⟩:=h
 have hrec:∀ {a:Option Addr} {l:List RI},RecRow w a l→RecRow (w.setCell ⟨X,j,none⟩ v) a l:=by
  intro a l hr hl
  obtain ⟨g,o,cs',e1,e2,e3⟩:=hr hl
  refine ⟨g,o,cs',e1,(Qf (fun e=>?_) _ _).trans e2,e3⟩
  subst e
  rw [hX] at e2
  cases e2
  exact h3 rfl
 refine ⟨a,c,xs,(Qf (fun e=>?_) _ _).trans k1,k2,Qi k3 hX (Ne.symm h1) j v,⟨k4.1,fun i hi=>?_⟩,hrec k5⟩
 ·subst e
  rw [hX] at k1
  cases k1
  exact h2 rfl
 ·obtain ⟨a',c',x1,x2,x3,x4,x5⟩:=k4.2 i hi
  exact ⟨a',c',x1,x2,x3,hrec x4,x5⟩
set_option maxRecDepth 100000 in
set_option maxHeartbeats 4000000 in
theorem Qlv (X N id fl lim:Nat) (aq:Option Addr) (cq:Nat) (q:List QI) (opt:Bool) (l:List Ev) (al:Option Addr) (cl:Nat) (qq:QI) (w:World)
  (hX:w.heap[X]? = some (.cells #[.int .i64 (id:Nat),.int .i64 (fl:Nat),.int .i64 0,.slice aq q.length cq,.bool opt,.slice none 0 0,.int .i64 (lim:Nat)] 144 (0,0)))
  (hE:RowAt w N al (evC l)) (hN:N≤X) (hl:l.length≤1048576) (hz:Q2d l) (hq:QueRow w aq q) (hq2:q.length≤cq) (hq3:Q4m q) (hid:id < 65536) (hfl:fl < 65536) (hlm:lim≤65535) (hqq:qq.name.size≤65535) :
  Calls Tryz.prog 138 #[.pointer (some ⟨X,0,none⟩),.slice al l.length cl,.agg #[.string qq.name,.int .i64 qq.ty,.int .i64 qq.cl]] w fun e w'=>e=.returned (.tuple #[])∧Rp w' X ⟨id,fl ||| 1024,Q3B (Qg l) (Q1h qq.name),q,opt,Q2m (Qg l) (Q1h qq.name) qq.ty,lim⟩∧w.grownBy w' (some X):=by
 have hor:bits .or .i64 (fl:Int) 1024=((fl ||| 1024:Nat):Int):=by
  have:=Q5q fl 1024 hfl (by decide)
  simpa using this
 have hfl2:fl ||| 1024 < 65536:=Nat.or_lt_two_pow (n:=16) hfl (by decide)
 obtain ⟨⟨x0,x1,x2,x3,x4,x5,x6⟩,y0,y1,y2,y3,y4,y5,y6⟩:=Q22 hX
 have hlt:=Qb hX
 obtain ⟨nm,ty,kl⟩:=qq
 simp only at hqq ⊢
 go_enter Tryz.func138,Tryz.ntmps138
 have hG1:w.grownBy ((w.setCell ⟨X,1,none⟩ (.int .i64 ((fl ||| 1024:Nat):Int))).alloc (.cells #[.string nm,.int .i64 ty,.int .i64 kl] 91)) (some X):=Q0M (Ql w X 1 _) (Q1y ((Below.refl _ _).alloc (Nat.le_refl _) _))
 have hX1:((w.setCell ⟨X,1,none⟩ (.int .i64 ((fl ||| 1024:Nat):Int))).alloc (.cells #[.string nm,.int .i64 ty,.int .i64 kl] 91)).heap[X]? = some (.cells #[.int .i64 (id:Nat),.int .i64 ((fl ||| 1024:Nat):Int),.int .i64 0,.slice aq q.length cq,.bool opt,.slice none 0 0,.int .i64 (lim:Nat)] 144 (0,0)):=(Below.heap_alloc _ _ _ (by rw [Q0l]; exact hlt)).trans (Qo hX 1 _)
 have hQ1:((w.setCell ⟨X,1,none⟩ (.int .i64 ((fl ||| 1024:Nat):Int))).alloc (.cells #[.string nm,.int .i64 ty,.int .i64 kl] 91)).heap[w.heap.size]? = some (.cells #[.string nm,.int .i64 ty,.int .i64 kl] 91 (0,0)):=by
  have:=heap_alloc_new (w.setCell ⟨X,1,none⟩ (.int .i64 ((fl ||| 1024:Nat):Int))) (.cells #[.string nm,.int .i64 ty,.int .i64 kl] 91)
  rw [Q0l] at this
  exact this
 have hE1:=hE.below (Q8g hG1 hN hlt)
 have kr:=fun hs=>QbC l al cl N _ hE1 hs (by omega) hz
 have hrl:=QaG l
 have hrs:=QaI l
 obtain ⟨z,hzr⟩:∃ z,Qg l=z:=⟨_,rfl⟩
 simp only [hzr] at kr hrl hrs
 have HZr:=Qa hzr
 clear hzr
 have HG1:=Qa hG1
 have HX1:=Qa hX1
 have HQ1:=Qa hQ1
 have KR:=Qa kr
 have HRs:=Qa hrs
 have HQ:=Qa hq
 have HX:=Qa hX
 have ksm:=fun (W:World)=>Qg3 nm W (by omega)
 have KSm:=Qa ksm
 clear hG1 hX1 hQ1 hE1 kr hrs hq hX ksm
 go_wp2_with fail
 clear x0 x1 x2 x3 x4 x5 x6 y0 y1 y2 y3 y4 y5 y6
 generalize (w.setCell ⟨X,1,none⟩ (.int .i64 ((fl ||| 1024:Nat):Int))).alloc (.cells #[.string nm,.int .i64 ty,.int .i64 kl] 91)=W1 at *
 have hlx:=Qb (Q6 HX1)
 refine (Q6 KR (by omega)).mono ?_
 rintro e w2 ⟨az,cz,rfl,oz,bz⟩
 obtain ⟨hrec,_⟩:=Q18 oz
 have hX2:=(bz.block X hlx).trans (Q6 HX1)
 have hQ2:=(bz.block w.heap.size (Qb (Q6 HQ1))).trans (Q6 HQ1)
 have hG2:=Q0M (Q6 HG1) (Q1y (X:=X) bz)
 have hsz2:w.heap.size≤w2.heap.size:=hG2.size
 clear HX1 HQ1 HG1 KR oz bz
 have hbs:Below w2.heap.size w2 (w2.alloc (.cells #[.slice az z.length cz,.slice none 0 0] 199)):=(Below.refl _ _).alloc (Nat.le_refl _) _
 have hS3:Sr (w2.alloc (.cells #[.slice az z.length cz,.slice none 0 0] 199)) w2.heap.size w2.heap.size az cz z []:=⟨none,0,[],heap_alloc_new _ _,Nat.le_refl _,World.ownsRow_nil _ _ _ _,⟨rfl,fun i hi=>absurd hi (by simp)⟩,hrec.below hbs⟩
 have hX3:=(hbs.block X (Qb hX2)).trans hX2
 have hQ3:=(hbs.block w.heap.size (Qb hQ2)).trans hQ2
 have hG3:=Q0M hG2 (Q1y (X:=X) hbs)
 obtain ⟨z0,z1,z2,_⟩:=Q4p hQ2
 have hlQ:=Qb hQ2
 have hlX:=Qb hX2
 have HX3:=Qa hX3
 have HQ3:=Qa hQ3
 have HG3:=Qa hG3
 have HS3:=Qa hS3
 clear hbs hX3 hQ3 hG3 hS3 hX2 hQ2 hG2 hrec
 go_wp2_with fail
 generalize w2.alloc (.cells #[.slice az z.length cz,.slice none 0 0] 199)=W3 at *
 refine (Q6 KSm _).mono ?_
 rintro e w4 ⟨rfl,hb4⟩
 obtain ⟨sn,hsn⟩:∃ sn,Q1h nm=sn:=⟨_,rfl⟩
 rw [hsn]
 have HSn:=Qa hsn
 have hX4:=(hb4.block X (Qb (Q6 HX3))).trans (Q6 HX3)
 have hQ4:=(hb4.block w.heap.size (Qb (Q6 HQ3))).trans (Q6 HQ3)
 have hS4:=(Q6 HS3).below hb4
 have hG4:=Q0M (Q6 HG3) (Q1y (X:=X) hb4)
 have kr4:=Qmp w2.heap.size w2.heap.size az cz z sn ty w4 hS4 (by omega) (Q6 HRs)
 obtain ⟨⟨x0,x1,x2,x3,x4,x5,x6⟩,y0,y1,y2,y3,y4,y5,y6⟩:=Q22 hX4
 have hlX4:=Qb hX4
 obtain ⟨⟨r0,r1,r2⟩,q0,q1,q2⟩:=Q4p hQ4
 have hlQ4:=Qb hQ4
 have hlS4:=hS4.lt.2
 have HX4:=Qa hX4
 have HQ4:=Qa hQ4
 have HG4:=Qa hG4
 have HS4:=Qa hS4
 have KR4:=Qa kr4
 obtain ⟨told,htold⟩:∃ t,Q3B z sn=t:=⟨_,rfl⟩
 obtain ⟨L,hL⟩:∃ L,Q2m z sn ty=L:=⟨_,rfl⟩
 rw [htold,hL] at KR4
 have HTo:=Qa htold
 have HL:=Qa hL
 clear hX4 hQ4 hG4 hS4 kr4 HX3 HQ3 HG3 HS3 hb4 hsn KSm htold hL z0 z1 z2
 go_wp2_with fail
 refine (Q6 KR4).mono ?_
 rintro e w5 ⟨rfl,hS5,hF5⟩
 have hX5:=hF5.kind X _ _ _ (Q6 HX4) (by decide) (by decide)
 have hG5:w.grownBy w5 (some X):=⟨hF5.os.trans (Q6 HG4).os,hF5.tape.trans (Q6 HG4).tape,hF5.output.trans (Q6 HG4).output,Nat.le_trans (Q6 HG4).size hF5.size,fun k hk hne=>(hF5.low k (by omega) (Nat.lt_of_lt_of_le hk (Q6 HG4).size)).trans ((Q6 HG4).block k hk hne)⟩
 clear x0 x1 x2 x3 x4 x5 x6 y0 y1 y2 y3 y4 y5 y6 r0 r1 r2 q0 q1 q2
 obtain ⟨⟨x0,x1,x2,x3,x4,x5,x6⟩,y0,y1,y2,y3,y4,y5,y6⟩:=Q22 hX5
 have HS5:=Qa hS5
 obtain ⟨aL,cL,xs,hSb,_,_,_,_⟩:=hS5
 obtain ⟨s0,s1,s2,s3⟩:=Q5b hSb
 have hlX5:=Qb hX5
 have hlS5:=Qb hSb
 have hSX:w2.heap.size≠X:=by omega
 have HX5:=Qa hX5
 have HG5:=Qa hG5
 have HSb:=Qa hSb
 clear hX5 hG5 hF5 hSb KR4 HX4 HQ4 HG4 HS4
 go_wp2_with fail
 go_end0
 have hX6:=Qo (Q6 HX5) 2 (.int .i64 (told:Nat))
 have hX7:=Qo hX6 5 (.slice aL L.length cL)
 have hS7:=((Q6 HS5).set (Q6 HX5) (by decide) (by decide) (by decide) 2 (.int .i64 (told:Nat))).set hX6 (by decide) (by decide) (by decide) 5 (.slice aL L.length cL)
 have hG7:=Q0M (Q0M (Q6 HG5) (Ql w5 X 2 (.int .i64 (told:Nat)))) (Ql _ X 5 (.slice aL L.length cL))
 obtain ⟨a',c',_,d1,_,_,_,hget⟩:=hS7.get
 have hd:w2.heap.size≠X:=hSX
 have hSb7:=(Qf (w:=w5.setCell ⟨X,2,none⟩ (.int .i64 (told:Nat))) hSX 5 (.slice aL L.length cL)).trans ((Qf (w:=w5) hSX 2 (.int .i64 (told:Nat))).trans (Q6 HSb))
 have d1':=(Q5b hSb7).2.1
 rw [d1'] at d1
 cases d1
 have hQ7:=(Q6 HQ).grown hG7 (Q6 HX) (by decide)
 have hok:=QfY z sn ty (by omega) (Q6 HRs)
 have htl:Q3B z sn≤16:=by unfold Q3B; split <;> omega
 rw [Q6 HL] at hok
 rw [Q6 HTo] at htl
 refine ⟨rfl,?_,hG7⟩
 rw [Q6 HZr,Q6 HSn,Q6 HTo,Q6 HL]
 exact ⟨aq,cq,aL,cL,hX7,hQ7.row,hq2,hq3,hget,hok.1,hok.2,hid,hfl2,htl,hlm⟩
theorem QeM {m:MI} (hok:Q1A m):((Q12 m.x).getD Qge).cl=((Q28 m.x:Nat):Int)∧((Q12 m.x).getD Qge).ttl=((Q2j m.x:Nat):Int)∧Q28 m.x≤65535∧Q2j m.x≤4294967295:=by
 unfold Q28 Q2j
 cases h:Q12 m.x with
 | none=>exact ⟨rfl,rfl,by simp,by simp⟩
 | some r =>
  have hm:r∈m.x:=List.mem_of_find?_eq_some h
  obtain ⟨i,hi,rfl⟩:=List.mem_iff_getElem.1 hm
  obtain ⟨⟨_,_,h3,h4,_⟩,_⟩:=hok.2.2.2.2.2.2 i hi
  have h31:=h3.1
  have h32:=h3.2
  have h41:=h4.1
  have h42:=h4.2
  refine ⟨?_,?_,?_,?_⟩
  ·show (m.x[i]).cl=((m.x[i].cl.toNat:Nat):Int); omega
  ·show (m.x[i]).ttl=((m.x[i].ttl.toNat:Nat):Int); omega
  ·show m.x[i].cl.toNat≤65535; omega
  ·show m.x[i].ttl.toNat≤4294967295; omega
theorem Qlu (c:Nat) (s:Bool):Q4v c s≤65535:=by
 unfold Q4v
 split
 ·omega
 ·split
  ·omega
  ·split <;> omega
theorem Qjm (id fl:Nat) (m:MI) (l:List Ev) (stream:Bool) (h:m.q.length≠1):Q3A id fl m l stream=⟨id,fl,1,[],(Q12 m.x).isSome,[],Q4v (Q28 m.x) stream⟩:=by
 unfold Q3A
 split
 ·next q hq=>rw [hq] at h; exact absurd rfl h
 ·rfl
theorem Qjn (id fl:Nat) (m:MI) (l:List Ev) (stream:Bool) (q:QI) (h:m.q=[q]):Q3A id fl m l stream=if Q1o m.flags.toNat (Q2j m.x) q=0 then
   ⟨id,fl ||| 1024,Q3B (Qg l) (Q1h q.name),[q],(Q12 m.x).isSome,Q2m (Qg l) (Q1h q.name) q.ty,Q4v (Q28 m.x) stream⟩
  else ⟨id,fl,Q1o m.flags.toNat (Q2j m.x) q,[q],(Q12 m.x).isSome,[],Q4v (Q28 m.x) stream⟩:=by
 unfold Q3A
 rw [h]
theorem QlP {w:World} {a:Option Addr} {l:List QI} {q:QI} (h:QueRow w a l) (hl:l=[q]):∃ g o cs,a=some ⟨g,o,none⟩∧w.heap[g]? = some (.cells cs 91 (0,0))∧w.cell? ⟨g,o,none⟩=some (.string q.name)∧w.cell? ⟨g,o+1,none⟩=some (.int .i64 q.ty)∧w.cell? ⟨g,o+2,none⟩=some (.int .i64 q.cl):=by
 subst hl
 obtain ⟨g,o,cs,h1,h2,h3⟩:=h (by simp)
 exact ⟨g,o,cs,h1,h2,(Qc h2 o).trans (h3 0 _ rfl),(Qc h2 (o+1)).trans (h3 1 _ rfl),(Qc h2 (o+2)).trans (h3 2 _ rfl)⟩
theorem Q6g:Q6W []:=⟨fun s hs=>absurd hs (by simp),Nat.zero_le _⟩
theorem Qa7:Q4m []:=fun i hi=>absurd hi (Nat.not_lt_zero i)
set_option maxRecDepth 100000 in
set_option maxHeartbeats 4000000 in
theorem QlY (X N id fl:Nat) (m:MI) (a1:Option Addr) (c1:Nat) (a2:Option Addr) (c2:Nat) (a3:Option Addr) (c3:Nat) (a4:Option Addr) (c4:Nat) (l:List Ev) (al:Option Addr) (cl:Nat) (stream:Bool) (w:World)
  (hX:w.heap[X]? = some (.cells #[.int .i64 (id:Nat),.int .i64 (fl:Nat),.int .i64 0,.slice none 0 0,.bool false,.slice none 0 0,.int .i64 0] 144 (0,0)))
  (hE:RowAt w N al (evC l)) (hN:N≤X) (hl:l.length≤1048576) (hz:Q2d l) (hq:QueRow w a1 m.q) (hq2:m.q.length≤c1) (hr:RecRow w a4 m.x) (hok:Q1A m) (hid:id < 65536) (hfl:fl < 65536) :
  Calls Tryz.prog 101 #[.pointer (some ⟨X,0,none⟩),.agg #[.int .i64 m.id,.int .i64 m.flags,.slice a1 m.q.length c1,.slice a2 m.a.length c2,.slice a3 m.u.length c3,.slice a4 m.x.length c4],.slice al l.length cl,.bool stream] w fun e w'=>e=.returned (.tuple #[])∧Rp w' X (Q3A id fl m l stream)∧w.grownBy w' (some X):=by
 have hlt:=Qb hX
 have hb1:Below w.heap.size w (w.alloc (.cells #[.int .i64 m.id,.int .i64 m.flags,.slice a1 m.q.length c1,.slice a2 m.a.length c2,.slice a3 m.u.length c3,.slice a4 m.x.length c4] 32)):=(Below.refl _ _).alloc (Nat.le_refl _) _
 have hM1:=heap_alloc_new w (.cells #[.int .i64 m.id,.int .i64 m.flags,.slice a1 m.q.length c1,.slice a2 m.a.length c2,.slice a3 m.u.length c3,.slice a4 m.x.length c4] 32)
 have ko:=QgY m.x a4 c4 _ (hr.below hb1).row (by have:=hok.2.2.2.2.2.1; omega)
 obtain ⟨o1,o2,o3,o4⟩:=QeM hok
 have hX1:=(hb1.block X hlt).trans hX
 have HX1:=Qa hX1
 have HM1:=Qa hM1
 have HB1:=Qa hb1
 have KO:=Qa ko
 have HX:=Qa hX
 have HE:=Qa hE
 have HQ:=Qa hq
 have HOk:=Qa hok
 have HQz:=Qa (show Q4m m.q from fun i hi=>by have:=(Q1j (hok.2.2.1.2 i hi).1).2; omega)
 have hf1:=hok.2.1.1
 have hf2:=hok.2.1.2
 clear hb1 hM1 ko hX1 hX hE hq hok
 go_enter Tryz.func101,Tryz.ntmps101
 go_wp2_with fail
 generalize w.alloc (.cells #[.int .i64 m.id,.int .i64 m.flags,.slice a1 m.q.length c1,.slice a2 m.a.length c2,.slice a3 m.u.length c3,.slice a4 m.x.length c4] 32)=W1 at *
 refine (Q6 KO).mono ?_
 rintro e w2 ⟨r,rfl,hr2,hb2⟩
 have hX2:=(hb2.block X (Qb (Q6 HX1))).trans (Q6 HX1)
 have hM2:=(hb2.block w.heap.size (Qb (Q6 HM1))).trans (Q6 HM1)
 have hB2:=(Q6 HB1).trans (hb2.mono (Q6 HB1).size)
 rw [←hr2] at o1 o2
 obtain ⟨rn,rt,rc,rl,rd⟩:=r
 simp only at o1 o2 ⊢
 subst o1 o2
 obtain ⟨⟨x0,x1,x2,x3,x4,x5,x6⟩,y0,y1,y2,y3,y4,y5,y6⟩:=Q22 hX2
 obtain ⟨⟨m0,m1,m2,m3,m4,m5⟩,n0,n1,n2,n3,n4,n5⟩:=Qh hM2
 have hlX2:=Qb hX2
 have hlM2:=Qb hM2
 have HX2:=Qa hX2
 have HM2:=Qa hM2
 have HB2:=Qa hB2
 have kl:=fun (W:World)=>Qkk (Q28 m.x) stream W
 have KL:=Qa kl
 obtain ⟨fo,hfo⟩:∃ f,(Q12 m.x).isSome=f:=⟨_,rfl⟩
 obtain ⟨C,hC⟩:∃ C,Q28 m.x=C:=⟨_,rfl⟩
 obtain ⟨T,hT⟩:∃ T,Q2j m.x=T:=⟨_,rfl⟩
 rw [hfo,hC,hT]
 rw [hC] at KL
 rw [hC] at o3
 rw [hT] at o4
 have HFo:=Qa hfo
 have HC:=Qa hC
 have HT:=Qa hT
 clear hX2 hM2 hB2 hb2 hr2 kl hfo hC hT KO HX1 HM1
 have hX3:=(Below.heap_alloc (w2.setCell ⟨X,4,none⟩ (.bool fo)) (.cells #[.string rn,.int .i64 rt,.int .i64 (C:Nat),.int .i64 (T:Nat),.string rd] 61) X (by rw [Q0l]; exact hlX2)).trans (Qo (Q6 HX2) 4 (.bool fo))
 have hM3:=(Below.heap_alloc (w2.setCell ⟨X,4,none⟩ (.bool fo)) (.cells #[.string rn,.int .i64 rt,.int .i64 (C:Nat),.int .i64 (T:Nat),.string rd] 61) w.heap.size (by rw [Q0l]; exact hlM2)).trans ((Qf (show w.heap.size≠X by omega) 4 (.bool fo)).trans (Q6 HM2))
 have hO3:=heap_alloc_new (w2.setCell ⟨X,4,none⟩ (.bool fo)) (.cells #[.string rn,.int .i64 rt,.int .i64 (C:Nat),.int .i64 (T:Nat),.string rd] 61)
 rw [Q0l] at hO3
 have hG3:=Q0M (Q1y (X:=X) (Q6 HB2)) (Q0M (Ql w2 X 4 (.bool fo)) (Q1y (X:=X) ((Below.refl (w2.setCell ⟨X,4,none⟩ (.bool fo)).heap.size (w2.setCell ⟨X,4,none⟩ (.bool fo))).alloc (Nat.le_refl _) (.cells #[.string rn,.int .i64 rt,.int .i64 (C:Nat),.int .i64 (T:Nat),.string rd] 61))))
 have HX3:=Qa hX3
 have HM3:=Qa hM3
 have HO3:=Qa hO3
 have HG3:=Qa hG3
 have hso:w2.heap.size≠X:=by omega
 have hsm:w.heap.size≠X:=by omega
 clear hX3 hM3 hO3 hG3
 go_wp2_with fail
 generalize (w2.setCell ⟨X,4,none⟩ (.bool fo)).alloc (.cells #[.string rn,.int .i64 rt,.int .i64 (C:Nat),.int .i64 (T:Nat),.string rd] 61)=W3 at *
 refine (Q6 KL _).mono ?_
 rintro e w' ⟨rfl,rfl⟩
 clear x0 x1 x2 x3 x4 x5 x6 y0 y1 y2 y3 y4 y5 y6 m0 m1 m2 m3 m4 m5 n0 n1 n2 n3 n4 n5 KL HX2 HM2 HB2
 obtain ⟨⟨x0,x1,x2,x3,x4,x5,x6⟩,y0,y1,y2,y3,y4,y5,y6⟩:=Q22 (Q6 HX3)
 obtain ⟨⟨m0,m1,m2,m3,m4,m5⟩,n0,n1,n2,n3,n4,n5⟩:=Qh (Q6 HM3)
 obtain ⟨⟨o0,o1,o2,o5,o6⟩,p0,p1,p2,p3,p4⟩:=Q1a (Q6 HO3)
 have hlX3:=Qb (Q6 HX3)
 have hlM3:=Qb (Q6 HM3)
 have hlO3:=Qb (Q6 HO3)
 have hlim:=Qlu C stream
 obtain ⟨lim,hlm⟩:∃ lim,Q4v C stream=lim:=⟨_,rfl⟩
 rw [hlm] at hlim ⊢
 have HLm:=Qa hlm
 clear hlm
 have hX4:=Qo (Q6 HX3) 6 (.int .i64 (lim:Nat))
 have HX4:=Qa hX4
 have hG4:=Q0M (Q6 HG3) (Ql w' X 6 (.int .i64 (lim:Nat)))
 have HG4:=Qa hG4
 clear hX4 hG4
 by_cases cq:m.q.length=1
 ·obtain ⟨q,hmq⟩:∃ q,m.q=[q]:=List.length_eq_one_iff.1 cq
  have hQ3:=(Q6 HQ).grown (Q6 HG3) (Q6 HX) (by decide)
  obtain ⟨g,o,cs,rfl,hg,q0,q1,q2⟩:=QlP hQ3 hmq
  have hgX:g≠X:=fun e=>by
   subst e
   rw [Q6 HX3] at hg
   cases hg
  have hlg:=Qb hg
  have f1:((m.q.length:Int) != 1)=false:=by rw [bne_eq_false_iff_eq]; omega
  have hpos:0 < m.q.length:=by omega
  have hwh:q.name.size≤255:=by
   have:=(Q6 HOk).2.2.1.2 0 hpos
   have e:m.q[0]=q:=by simp [hmq]
   rw [e] at this
   exact (Q1j this.1).2
  have krf:=fun (W:World)=>Qhb m.flags.toNat T q W (by omega) o4 (by omega)
  have eF:((m.flags.toNat:Nat):Int)=m.flags:=by omega
  have eT:=Qjn id fl m l stream q hmq
  rw [Q6 HT,Q6 HFo,Q6 HC,Q6 HLm] at eT
  rw [eF] at krf
  obtain ⟨rf,hrf⟩:∃ r,Q1o m.flags.toNat T q=r:=⟨_,rfl⟩
  have hrf16:rf≤16:=by rw [←hrf]; unfold Q1o; split <;> (try split) <;> (try split) <;> omega
  rw [hrf] at krf eT
  have KRf:=Qa krf
  have HTk:=Qa eT
  have HMq:=Qa hmq
  have hX5:=Qo (Q6 HX4) 3 (.slice (some ⟨g,o,none⟩) 1 c1)
  have hG5:=Q0M (Q6 HG4) (Ql _ X 3 (.slice (some ⟨g,o,none⟩) 1 c1))
  have hz5:((w'.setCell ⟨X,6,none⟩ (.int .i64 (lim:Nat))).setCell ⟨X,3,none⟩ (.slice (some ⟨g,o,none⟩) 1 c1)).heap.size=w'.heap.size:=by rw [Q0l,Q0l]
  have hQz:=Q6 HQz
  rw [hmq] at hQz
  have HQz1:=Qa hQz
  have hQr:=Q6 HQ
  rw [hmq] at hQr
  have HQr:=Qa hQr
  obtain ⟨qn,qt,qc⟩:=q
  simp only at q0 q1 q2 hwh
  have hb6:=(Below.refl ((w'.setCell ⟨X,6,none⟩ (.int .i64 (lim:Nat))).setCell ⟨X,3,none⟩ (.slice (some ⟨g,o,none⟩) 1 c1)).heap.size ((w'.setCell ⟨X,6,none⟩ (.int .i64 (lim:Nat))).setCell ⟨X,3,none⟩ (.slice (some ⟨g,o,none⟩) 1 c1))).alloc (Nat.le_refl _) (.cells #[.string qn,.int .i64 qt,.int .i64 qc] 91)
  have hX6:=(hb6.block X (by rw [hz5]; exact hlX3)).trans hX5
  have hQ6:=heap_alloc_new ((w'.setCell ⟨X,6,none⟩ (.int .i64 (lim:Nat))).setCell ⟨X,3,none⟩ (.slice (some ⟨g,o,none⟩) 1 c1)) (.cells #[.string qn,.int .i64 qt,.int .i64 qc] 91)
  rw [hz5] at hQ6
  have hG6:=Q0M hG5 (Q1y (X:=X) hb6)
  have HX6:=Qa hX6
  have HQ6:=Qa hQ6
  have HG6:=Qa hG6
  have hqX:w'.heap.size≠X:=by omega
  clear krf eT hmq hQ3 hg eF hrf hX5 hG5 hb6 hX6 hQ6 hG6 hQz hQr hz5
  go_wp2_with fail
  generalize ((w'.setCell ⟨X,6,none⟩ (.int .i64 (lim:Nat))).setCell ⟨X,3,none⟩ (.slice (some ⟨g,o,none⟩) 1 c1)).alloc (.cells #[.string qn,.int .i64 qt,.int .i64 qc] 91)=W6 at *
  refine (Q6 KRf _).mono ?_
  rintro e w7 ⟨rfl,hb7⟩
  have hX7:=(hb7.block X (Qb (Q6 HX6))).trans (Q6 HX6)
  have hQ7:=(hb7.block w'.heap.size (Qb (Q6 HQ6))).trans (Q6 HQ6)
  have hG7:=Q0M (Q6 HG6) (Q1y (X:=X) hb7)
  clear x0 x1 x2 x3 x4 x5 x6 y0 y1 y2 y3 y4 y5 y6 m0 m1 m2 m3 m4 m5 n0 n1 n2 n3 n4 n5 o0 o1 o2 o5 o6 p0 p1 p2 p3 p4 q0 q1 q2
  obtain ⟨⟨x0,x1,x2,x3,x4,x5,x6⟩,y0,y1,y2,y3,y4,y5,y6⟩:=Q22 hX7
  obtain ⟨⟨q0,q1,q2⟩,v0,v1,v2⟩:=Q4p hQ7
  have hlX7:=Qb hX7
  have hlQ7:=Qb hQ7
  have hX8:=Qo hX7 2 (.int .i64 (rf:Nat))
  have hG8:=Q0M hG7 (Ql w7 X 2 (.int .i64 (rf:Nat)))
  have HX8:=Qa hX8
  have HG8:=Qa hG8
  clear hX7 hQ7 hG7 hX8 hG8 hb7 HX6 HQ6 HG6 KRf
  have hQ8:=(Q6 HQr).grown (Q6 HG8) (Q6 HX) (by decide)
  have HQ8:=Qa hQ8
  clear hQ8
  by_cases c0:rf=0
  ·subst c0
   have eT:=Q6 HTk
   rw [if_pos rfl] at eT
   have HTk2:=Qa eT
   have kl:=Qlv X N id fl lim (some ⟨g,o,none⟩) c1 [⟨qn,qt,qc⟩] fo l al cl ⟨qn,qt,qc⟩ (w7.setCell ⟨X,2,none⟩ (.int .i64 ((0:Nat):Int))) (Q6 HX8) ((Q6 HE).below (Q8g (Q6 HG8) hN hlt)) hN hl hz (Q6 HQ8) (by show 1≤c1; omega) (Q6 HQz1) hid hfl hlim (by show qn.size≤_; omega)
   have KL:=Qa kl
   clear eT kl HTk
   go_wp2_with fail
   refine (Q6 KL).mono ?_
   rintro e w9 ⟨rfl,hR9,hG9⟩
   have hG10:=Q0M (Q6 HG8) hG9
   rw [←Q6 HTk2] at hR9
   have HR9:=Qa hR9
   have HG10:=Qa hG10
   clear hR9 hG9 hG10
   go_wp2_with fail
   go_end0
   exact ⟨rfl,Q6 HR9,Q6 HG10⟩
  ·have f3:((rf:Int) == 0)=false:=beq_eq_false_iff_ne.2 (by omega)
   have eT:=Q6 HTk
   rw [if_neg c0] at eT
   have HTk2:=Qa eT
   clear eT HTk c0
   go_wp2_with fail
   go_end0
   refine ⟨rfl,?_,Q6 HG8⟩
   rw [Q6 HTk2]
   exact ⟨some ⟨g,o,none⟩,c1,none,0,Q6 HX8,(Q6 HQ8).row,by show 1≤c1; omega,Q6 HQz1,fun i hi=>absurd hi (Nat.not_lt_zero i),Q6g,Nat.zero_le _,hid,hfl,hrf16,hlim⟩
 ·have hT:=Qjm id fl m l stream cq
  rw [Q6 HFo,Q6 HC,Q6 HLm] at hT
  have f1:((m.q.length:Int) != 1)=true:=by rw [bne_iff_ne]; omega
  have HTk:=Qa hT
  clear hT cq
  go_wp2_with fail
  refine bodyPost_ret (results_none rfl _ _ _) rfl ?_
  refine ⟨rfl,?_,Q0M (Q6 HG4) (Ql _ X 2 _)⟩
  rw [Q6 HTk]
  exact ⟨none,0,none,0,Qo (Q6 HX4) 2 (.int .i64 1),fun h=>absurd rfl h,Nat.le_refl _,Qa7,fun i hi=>absurd hi (Nat.not_lt_zero i),Q6g,Nat.zero_le _,hid,hfl,by show 1≤16; omega,hlim⟩
end Go.Proofs.YtdhobdmhnocbgabGreatDoor
