import Derived.Test.YtdhobdmhnocbgabGreatDoorSOpnC
import Derived.Test.YtdhobdmhnocbgabGreatDoorSAlE
import Derived.Test.YtdhobdmhnocbgabGreatDoorSAsW
import Derived.Test.YtdhobdmhnocbgabGreatDoorSLawK
namespace Go.Proofs.YtdhobdmhnocbgabGreatDoor
open Go.RowKit Zr
theorem Tryz.infoRs:(Tryz.prog.info? 27).map (fun i=>(i.zero,i.size,i.bytes))=some (some (.slice none 0 0),1,24):=by kernel_rfl
structure Bel (N:Nat) (w w':World):Prop where
 os:w'.os=w.os
 output:w'.output=w.output
 size:w.heap.size≤w'.heap.size
 block:∀ k,k < N→w'.heap[k]? = w.heap[k]?
theorem Bel.refl (N:Nat) (w:World):Bel N w w:=⟨rfl,rfl,Nat.le_refl _,fun _ _=>rfl⟩
theorem Bel.of {N:Nat} {w w':World} (h:Below N w w'):Bel N w w':=⟨h.os,h.output,h.size,h.block⟩
theorem Bel.grew {w w':World} (h:Grew w w' none):Bel w.heap.size w w':=⟨h.os,h.output,h.size,fun k hk=>h.block k hk (by simp)⟩
theorem Bel.own {N:Nat} {w w':World} {o:Option Nat} (h:Grew w w' o) (hN:N≤w.heap.size) (ho:∀ g,o=some g→N≤g):Bel N w w':=⟨h.os,h.output,h.size,fun k hk=>h.block k (Nat.lt_of_lt_of_le hk hN) (fun e=>by have:=ho k e.symm; omega)⟩
theorem Bel.trans {N:Nat} {a b c:World} (h:Bel N a b) (k:Bel N b c):Bel N a c:=⟨k.os.trans h.os,k.output.trans h.output,Nat.le_trans h.size k.size,fun i hi=>(k.block i hi).trans (h.block i hi)⟩
theorem Bel.mono {N M:Nat} {w w':World} (h:Bel N w w') (hM:M≤N):Bel M w w':=⟨h.os,h.output,h.size,fun k hk=>h.block k (Nat.lt_of_lt_of_le hk hM)⟩
def retape (w w':World):World:={ w' with tape:=w.tape }
theorem Bel.fake {N:Nat} {w w':World} (h:Bel N w w'):Below N w (retape w w'):=⟨h.os,rfl,h.output,h.size,h.block⟩
theorem KFr.bel {w w':World} (h:Bel w.heap.size w w'):KFr w w':=fun b _ _ _ _ _ _ _ _ q=>(h.block b (Qb q)).trans q
theorem Lst.retape {w w':World} {M B n m:Nat} (h:Lst (retape w w') M B n m):Lst w' M B n m:=by
 obtain ⟨X,A,G,cx,ca,cg,xs,ts,gs,R,p,v1,o1,v2,o2,hl,hx,ha,hg,hR,hM,hp,hal⟩:=h
 refine ⟨X,A,G,cx,ca,cg,xs,ts,gs,R,p,v1,o1,v2,o2,⟨hl.hB,hl.hX,hl.hA,hl.hG,hl.h1,hl.h2,hl.ap,fun k hk=>?_⟩,hx,ha,hg,hR,hM,hp,fun i hi=>?_⟩
 ·obtain ⟨e,l,q1,q2⟩:=hl.hF k hk
  exact ⟨e,l,q1,q2⟩
 ·obtain ⟨a,c,a2,c2,T,q1,q2,q3,q4,q5⟩:=hal i hi
  exact ⟨a,c,a2,c2,T,q1,q2,q3,q4,q5⟩
theorem Lst.bel {w w':World} {M B n m:Nat} (h:Lst w M B n m) (hb:Bel w.heap.size w w'):Lst w' M B n m:=(h.below hb.fake).retape
theorem RowAt.bel {w w':World} {N:Nat} {a:Option Addr} {xs:List Value} (h:RowAt w N a xs) (hb:Bel N w w'):RowAt w' N a xs:=(h.below hb.fake:RowAt (retape w w') N a xs)
theorem MsgAt.bel {w w':World} {N:Nat} {v:Value} {m:MI} (h:MsgAt w N v m) (hb:Bel N w w'):MsgAt w' N v m:=(h.below hb.fake:MsgAt (retape w w') N v m)
def RecS (w:World) (a:Option Addr) (T:List RI):Prop :=
 T≠[]→∃ (b:Nat) (cs:Array Value) (z:Nat × Nat),a=some ⟨b,0,none⟩∧w.heap[b]? = some (.cells cs 61 z)∧∀ (j:Nat) (u:Value),(rcI T)[j]? = some u→cs[j]? = some u
theorem RecS.kfr {w w':World} {a:Option Addr} {T:List RI} (h:RecS w a T) (hf:KFr w w'):RecS w' a T:=fun ht=>by
 obtain ⟨b,cs,z,h1,h2,h3⟩:=h ht
 exact ⟨b,cs,z,h1,hf b cs _ z (by decide) (by decide) (by decide) (by decide) (by decide) h2,h3⟩
theorem RecS.app {w w':World} {a:Option Addr} {T:List RI} (h:RecS w a T) {N:Nat} {e:TypeId} {size:Nat} {v:Value} {n:Nat} {l:List Value} (ho:w.ownsRow N e size v n l) (hne:e≠61) (hg:w.grownBy w' v.ownBlock):RecS w' a T:=fun ht=>by
 obtain ⟨b,cs,z,h1,h2,h3⟩:=h ht
 exact ⟨b,cs,z,h1,Q02 ho hg h2 hne,h3⟩
theorem RecS.row {w:World} {a:Option Addr} {T:List RI} (h:RecS w a T):RowAt w w.heap.size a (rcI T):=fun ht=>by
 obtain ⟨b,cs,z,h1,h2,h3⟩:=h (fun e=>ht (by rw [e]; rfl))
 refine ⟨b,0,h1,Qb h2,fun j u hu=>?_⟩
 rw [Nat.zero_add]
 simp only [World.cell?,h2]
 exact h3 j u hu
theorem Qbx {w:World} {N:Nat} {a:Option Addr} {n c:Nat} {T:List RI} (h:w.ownsRow N 61 5 (.slice a n c) n (rcI T)):RecS w a T:=fun ht=>by
 have hl:=h.1
 rw [Q7S] at hl
 rcases h.2 with ⟨_,h2⟩ | ⟨g,cap,cur,h1,h2,h3,h4,h5,h6,h7⟩
 ·exact absurd (List.eq_nil_of_length_eq_zero (by omega)) ht
 ·injection h1 with i1 i2 i3
  refine ⟨g,cur,(0,0),i1,h3,fun j u hu=>?_⟩
  rw [←h7,List.getElem?_take] at hu
  split at hu
  ·simpa using hu
  ·cases hu
theorem Qhe {w:World} {N:Nat} {v:Value} {T:List RI} (h:RoomR w N v T):∃ a c,v=.slice a T.length c∧RecS w a T:=by
 obtain ⟨g,h1,_,h3⟩:=h
 refine ⟨_,_,h1,fun _=>⟨g,_,_,rfl,h3,fun j u hu=>?_⟩⟩
 rw [List.getElem?_toArray,List.getElem?_append_left (List.getElem?_eq_some_iff.1 hu).1]
 exact hu
def RecAlike (w:World) (o1 o2:List Value) (i:Nat):Prop :=
 ∃ (a:Option Addr) (c:Nat) (a2:Option Addr) (c2:Nat) (T:List RI),o1[i]? = some (.slice a T.length c)∧o2[i]? = some (.slice a2 T.length c2)∧T.length≤16777216∧RecS w a T∧RecS w a2 T
structure Lr (w:World) (M n1 n2:Nat) (v1 v2:Value) (o1 o2:List Value):Prop where
 h1:w.ownsRow M 27 1 v1 n1 o1
 h2:w.ownsRow M 27 1 v2 n2 o2
 ap:Apart v1 v2
theorem Qdg {w w':World} {M n:Nat} {v:Value} {l:List Value} (h:w.ownsRow M 27 1 v n l) (hf:KFr w w'):w'.ownsRow M 27 1 v n l:=by
 refine ⟨h.1,?_⟩
 rcases h.2 with hn | ⟨g,cap,cur,h1,h2,h3,h4⟩
 ·exact .inl hn
 ·exact .inr ⟨g,cap,cur,h1,h2,hf g cur _ _ (by decide) (by decide) (by decide) (by decide) (by decide) h3,h4⟩
theorem Lr.kfr {w w':World} {M n1 n2:Nat} {v1 v2:Value} {o1 o2:List Value} (h:Lr w M n1 n2 v1 v2 o1 o2) (hf:KFr w w'):Lr w' M n1 n2 v1 v2 o1 o2:=⟨Qdg h.h1 hf,Qdg h.h2 hf,h.ap⟩
theorem RecAlike.kfr {w w':World} {o1 o2:List Value} {i:Nat} (h:RecAlike w o1 o2 i) (hf:KFr w w'):RecAlike w' o1 o2 i:=by
 obtain ⟨a,c,a2,c2,T,q1,q2,q3,q4,q5⟩:=h
 exact ⟨a,c,a2,c2,T,q1,q2,q3,q4.kfr hf,q5.kfr hf⟩
theorem Lst.app {w w':World} {M B n m:Nat} (h:Lst w M B n m) {N:Nat} {v:Value} {k:Nat} {l:List Value} (ho:w.ownsRow N 27 1 v k l) (hg:w.grownBy w' v.ownBlock):Lst w' M B n m:=by
 obtain ⟨X,A,G,cx,ca,cg,xs,ts,gs,R,p,v1,o1,v2,o2,hl,hx,ha,hgs,hR,hM,hp,hal⟩:=h
 refine ⟨X,A,G,cx,ca,cg,xs,ts,gs,R,p,v1,o1,v2,o2,⟨Q02 ho hg hl.hB (by decide),Q02 ho hg hl.hX (by decide),Q02 ho hg hl.hA (by decide),Q02 ho hg hl.hG (by decide),Q2E ho hg hl.h1 (by decide),Q2E ho hg hl.h2 (by decide),hl.ap,fun i hi=>?_⟩,hx,ha,hgs,hR,hM,hp,fun i hi=>?_⟩
 ·obtain ⟨e,l',q1,q2⟩:=hl.hF i hi
  exact ⟨e,l',Q02 ho hg (show w.heap[R i]? = some (.cells _ _ _) from q1) (by decide),q2⟩
 ·obtain ⟨a,c,a2,c2,T,q1,q2,q3,q4,q5⟩:=hal i hi
  have hf:SFr w.heap.size A w w':=SFr.app ho (by decide) hg
  exact ⟨a,c,a2,c2,T,q1,q2,q3,q4.fr hf,q5.fr hf⟩
def QbS (w:World) (M B n m len sz:Nat) (e:Ending) (w':World):Prop :=
 ∃ (a:Option Addr) (R:List RI) (c:Nat),e=.returned (.tuple #[.slice a R.length c,.bool true])∧R.length≤16777216∧RecS w' a R∧Bel M w w'∧KFr w w'∧∃ n' m',n'≤n+len∧m'≤m+sz∧Lst w' M B n' m'
theorem Q7i {w w':World} {M B n m len sz:Nat} {a:Option Addr} {R:List RI} {c:Nat} {e:Ending} (he:e=.returned (.tuple #[.slice a R.length c,.bool true])) (hR:R.length≤16777216) (hr:RecS w' a R) (hb:Bel w.heap.size w w') (hM:M≤w.heap.size) (h:Lst w M B n m):QbS w M B n m len sz e w' :=
 ⟨a,R,c,he,hR,hr,hb.mono hM,KFr.bel hb,n,m,by omega,by omega,h.bel hb⟩
theorem Q6G {w w':World} {M B n m len sz:Nat} {e:Ending} (he:e=.returned (.tuple #[.slice none 0 0,.bool true])) (hb:Bel w.heap.size w w') (hM:M≤w.heap.size) (h:Lst w M B n m):QbS w M B n m len sz e w' :=
 Q7i (a:=none) (R:=[]) (c:=0) he (Nat.zero_le _) (fun h=>absurd rfl h) hb hM h
structure Sx where
 kind:Int
 s:ByteArray
 mi:MI
 a1:Option Addr
 c1:Nat
 a2:Option Addr
 c2:Nat
 a3:Option Addr
 c3:Nat
 a4:Option Addr
 c4:Nat
 l:List Ev
 aL:Option Addr
 cL:Nat
 t:List ByteArray
 aT:Option Addr
 cT:Nat
 sc:List Ck
 aC:Option Addr
 cC:Nat
 stream:Bool
def Sx.msg (x:Sx):Value:=.agg #[.int .i64 x.mi.id,.int .i64 x.mi.flags,.slice x.a1 x.mi.q.length x.c1,.slice x.a2 x.mi.a.length x.c2,.slice x.a3 x.mi.u.length x.c3,.slice x.a4 x.mi.x.length x.c4]
def Sx.cells (x:Sx):List Value:=[.int .i64 x.kind,.string x.s,.int .i64 x.mi.id,.int .i64 x.mi.flags,.slice x.a1 x.mi.q.length x.c1,.slice x.a2 x.mi.a.length x.c2,.slice x.a3 x.mi.u.length x.c3,.slice x.a4 x.mi.x.length x.c4,.slice x.aL x.l.length x.cL,.slice x.aT x.t.length x.cT,.slice x.aC x.sc.length x.cC,.bool x.stream]
def Sx.val (x:Sx):Value:=.agg x.cells.toArray
structure StepIn (x:Sx) (w:World):Prop where
 msg:MsgAt w w.heap.size x.msg x.mi
 lens:Qgg x.mi
 ev:RowAt w w.heap.size x.aL (evC x.l)
 evl:x.l.length≤1048576
 evz:Q2d x.l
 tx:RowAt w w.heap.size x.aT (stC x.t)
 txl:x.t.length≤1048576
 txz:Q2r x.t≤67108864
 ck:RowAt w w.heap.size x.aC (ckC x.sc)
 ckl:x.sc.length≤1048576
 ckz:szC x.sc≤1048576
 cki:∀ i (h:i < x.sc.length),-9223372036854775808≤x.sc[i].feed∧x.sc[i].feed < 9223372036854775808
 str:x.s.size≤1048576
theorem StepIn.bel {x:Sx} {w w':World} (h:StepIn x w) (hb:Bel w.heap.size w w'):StepIn x w' :=
 ⟨(h.msg.bel hb).mono hb.size,h.lens,(h.ev.bel hb).mono hb.size,h.evl,h.evz,(h.tx.bel hb).mono hb.size,h.txl,h.txz,(h.ck.bel hb).mono hb.size,h.ckl,h.ckz,h.cki,h.str⟩
set_option maxRecDepth 100000 in
set_option maxHeartbeats 4000000 in
theorem Qjk (x:Sx) (M B n m k:Nat) (w:World) (h:StepIn x w) (hLs:Lst w M B n m) (hM:M≤w.heap.size) (hk:k≤1048576) (hn:n+x.sc.length≤1048576) (hm:m+szC x.sc≤1048576) (hck:RowAt w M x.aC (ckC x.sc))
  (htab : ∀ w', Bel M w w' → Lib.TabIs Tryz.prog w' "internal/strconv.uint64pow10" .u64 Lib.pow10Tab) :
  Calls Tryz.prog 5 #[.pointer (some ⟨B,0,none⟩),x.val,.int .i64 k] w fun e w'=>QbS w M B n m x.sc.length (szC x.sc) e w':=by
 have hA0:=(Below.refl w.heap.size w).alloc (Nat.le_refl _) (.cells x.cells.toArray 37)
 have hC:=heap_alloc_new w (.cells x.cells.toArray 37)
 have hsA:(w.alloc (.cells x.cells.toArray 37)).heap.size=w.heap.size+1:=by simp
 have hI:=h.bel (Bel.of hA0)
 have HA0:=Qa (Bel.of hA0)
 have HLs:=Qa hLs
 have HT:=Qa htab
 have hck0:=hck.bel ((Bel.of hA0).mono hM)
 clear hck
 obtain ⟨kind,s,mi,a1,c1,a2,c2,a3,c3,a4,c4,l,aL,cL,t,aT,cT,sc,aC,cC,stream⟩:=x
 unfold Sx.cells at hA0 hC hsA
 obtain ⟨h1,h2,h3,h4,h5,h6,h7,h8,h9,h10,h11,h12,h13⟩:=hI
 unfold Sx.cells at h1 h3 h6 h9 HA0
 unfold Sx.msg at h1
 unfold Sx.cells at hck0
 simp only at h1 h2 h3 h4 h5 h6 h7 h8 h9 h10 h11 h12 h13 hA0 hC hsA HA0 hn hm hck0
 have HCk:=Qa hck0
 have H1:=Qa h1
 have H2:=Qa h2
 have H3:=Qa h3
 have H5:=Qa h5
 have H6:=Qa h6
 have H9:=Qa h9
 have H12:=Qa h12
 clear h h1 h2 h3 h5 h6 h9 h12 hA0 hLs htab hck0
 unfold Sx.val Sx.cells
 go_enter Tryz.func5,Tryz.ntmps5
 go_upto_region 1 with fail
 obtain ⟨C,hCs⟩:∃ C,w.heap.size=C:=⟨_,rfl⟩
 rw [hCs] at hC hsA HA0 hM
 simp only [hCs]
 generalize w.alloc (.cells ([.int .i64 kind,.string s,.int .i64 mi.id,.int .i64 mi.flags,.slice a1 mi.q.length c1,.slice a2 mi.a.length c2,.slice a3 mi.u.length c3,.slice a4 mi.x.length c4,.slice aL l.length cL,.slice aT t.length cT,.slice aC sc.length cC,.bool stream]:List Value).toArray 37)=w0 at *
 have d0:w0.cell? ⟨C,0,none⟩=some (.int .i64 kind):=Qc hC 0
 have HCs:=Qa hCs
 clear hCs
 have hM0:M≤w0.heap.size:=by omega
 by_cases k1:kind=1
 ·subst k1
  have d1:w0.cell? ⟨C,1,none⟩=some (.string s):=Qc hC 1
  have KP:=Qa (Qh3 s (k:Int) w0 (by unfold maxLen; omega) (by omega) (by omega))
  clear hC
  go_wp2_with fail
  refine (Q6 KP).mono ?_
  rintro e w1 ⟨hg,i,f,b1,n1,e1,b2,n2,e2,b3,n3,e3,b4,n4,e4,mark,rfl,hn2,how⟩
  have HG:=Qa hg
  have HOW:=Qa how
  clear hg how KP d0 d1
  go_wp2_with fail
  go_ret2
  have hb1:Bel w.heap.size w w1:=(by rw [Q6 HCs]; exact Q6 HA0:Bel w.heap.size w w0).trans ((Bel.grew (Q6 HG)).mono (by rw [Q6 HCs]; omega))
  have hal:=(Below.refl w1.heap.size w1).alloc (Nat.le_refl _) (.cells #[.int .i64 i,.int .i64 f,.slice b1 n1 e1,.slice b2 n2 e2,.slice b3 n3 e3,.slice b4 n4 e4] 32)
  refine Q7i (a:=b2) (R:=List.replicate n2 (Q8N mark)) (c:=e2) (by rw [List.length_replicate]; rfl) (by rw [List.length_replicate]; omega) ((Qbx (Q6 HOW)).kfr (KFr.below hal)) (hb1.trans ((Bel.of hal).mono (Nat.le_trans (by rw [Q6 HCs]; omega) (Q6 HG).size))) (by rw [Q6 HCs]; exact hM) (Q6 HLs)
 have f1:(kind == 1)=false:=beq_eq_false_iff_ne.2 k1
 clear k1
 by_cases k2:kind=2
 ·subst k2
  have d2:w0.cell? ⟨C,2,none⟩=some (.int .i64 mi.id):=Qc hC 2
  have d3:w0.cell? ⟨C,3,none⟩=some (.int .i64 mi.flags):=Qc hC 3
  have d4:w0.cell? ⟨C,4,none⟩=some (.slice a1 mi.q.length c1):=Qc hC 4
  have d5:w0.cell? ⟨C,5,none⟩=some (.slice a2 mi.a.length c2):=Qc hC 5
  have d6:w0.cell? ⟨C,6,none⟩=some (.slice a3 mi.u.length c3):=Qc hC 6
  have d7:w0.cell? ⟨C,7,none⟩=some (.slice a4 mi.x.length c4):=Qc hC 7
  have KP:=Qa (QdH mi _ w0 (Q6 H1) (Q6 H2))
  clear hC
  go_wp2_with fail
  refine (Q6 KP).mono ?_
  rintro e w1 ⟨rfl,hb⟩
  have HB:=Qa hb
  clear hb KP d0 d2 d3 d4 d5 d6 d7
  go_wp2_with fail
  go_ret2
  exact Q6G rfl ((by rw [Q6 HCs]; exact Q6 HA0:Bel w.heap.size w w0).trans ((Bel.of (Q6 HB)).mono (by rw [Q6 HCs]; omega))) (by rw [Q6 HCs]; exact hM) (Q6 HLs)
 have f2:(kind == 2)=false:=beq_eq_false_iff_ne.2 k2
 clear k2
 by_cases k3:kind=3
 ·subst k3
  have d9:w0.cell? ⟨C,9,none⟩=some (.slice aT t.length cT):=Qc hC 9
  have d10:w0.cell? ⟨C,10,none⟩=some (.slice aC sc.length cC):=Qc hC 10
  have KP:=Qa (QdV t aT cT w0.heap.size sc aC cC w0 (Q6 H6) (Q6 H9) (Nat.le_refl _) h7 h8 h10 h11 (Q6 H12) (Q6 HT w0 (by rw [Q6 HCs] at *; exact (Q6 HA0).mono hM)))
  clear hC
  go_wp2_with fail
  refine (Q6 KP).mono ?_
  rintro e w1 ⟨rfl,hb⟩
  have HB:=Qa hb
  clear hb KP d0 d9 d10
  go_wp2_with fail
  go_ret2
  exact Q6G rfl ((by rw [Q6 HCs]; exact Q6 HA0:Bel w.heap.size w w0).trans ((Bel.of (Q6 HB)).mono (by rw [Q6 HCs]; omega))) (by rw [Q6 HCs]; exact hM) (Q6 HLs)
 have f3:(kind == 3)=false:=beq_eq_false_iff_ne.2 k3
 clear k3
 by_cases k4:kind=4
 ·subst k4
  have d8:w0.cell? ⟨C,8,none⟩=some (.slice aL l.length cL):=Qc hC 8
  have KP:=Qa (Qet l aL cL w0.heap.size w0 (Q6 H3) (Nat.le_refl _) (by omega) (Q6 H5))
  have hrl:=Q8V l
  clear hC
  go_wp2_with fail
  refine (Q6 KP).mono ?_
  rintro e w1 ⟨b1,e1,rfl,how,hb⟩
  have HB:=Qa hb
  have hs1:w0.heap.size≤w1.heap.size:=hb.size
  have hnR:(Q0I l).length≤16777216:=by omega
  generalize (Q0I l).length=nr at *
  generalize rcI (Q0I l)=xs at *
  have KB:=Qa (Qeg b1 nr e1 w0.heap.size xs w1 how hnR)
  clear hb how KP d0 d8
  go_wp2_with fail
  refine (Q6 KB).mono ?_
  rintro e w2 ⟨rfl,how2,hg2⟩
  have HG2:=Qa hg2
  have hs2:w0.heap.size≤w2.heap.size:=Nat.le_trans hs1 hg2.size
  have HO2:=Qa how2
  have KF:=Qa (QfF b1 nr e1 w0.heap.size xs (77+10 * (k:Int)) w2 how2 hnR)
  clear how2 hg2 KB
  go_wp2_with fail
  refine (Q6 KF).mono ?_
  rintro e w3 ⟨rfl,_,hg3,how3⟩
  have HG3:=Qa hg3
  have HO3:=Qa how3
  clear hg3 how3 KF
  go_wp2_with fail
  go_ret2
  have hbw:Bel w0.heap.size w0 w3:=((Bel.of (Q6 HB)).trans (Bel.own (Q6 HG2) hs1 (fun g hg=>((Q6 HO2).lt g hg).1))).trans (Bel.own (Q6 HG3) hs2 (fun g hg=>((Q6 HO2).lt g hg).1))
  exact Q7i (a:=b1) (R:=List.replicate nr (Q8N (77+10 * (k:Int)))) (c:=e1) (by rw [List.length_replicate]; rfl) (by rw [List.length_replicate]; omega) (Qbx (Q6 HO3)) ((by rw [Q6 HCs]; exact Q6 HA0:Bel w.heap.size w w0).trans (hbw.mono (by rw [Q6 HCs]; omega))) (by rw [Q6 HCs]; exact hM) (Q6 HLs)
 have f4:(kind == 4)=false:=beq_eq_false_iff_ne.2 k4
 clear k4
 by_cases k5:kind=5
 ·subst k5
  have d1:w0.cell? ⟨C,1,none⟩=some (.string s):=Qc hC 1
  have d8:w0.cell? ⟨C,8,none⟩=some (.slice aL l.length cL):=Qc hC 8
  have d11:w0.cell? ⟨C,11,none⟩=some (.bool stream):=Qc hC 11
  have KP:=Qa (Qgs l aL cL w0.heap.size s stream w0 (Q6 H3) (Nat.le_refl _) h4 (Q6 H5) (by unfold maxLen; omega))
  clear hC
  go_wp2_with fail
  refine (Q6 KP).mono ?_
  rintro e w1 ⟨rfl,hb⟩
  have HB:=Qa hb
  clear hb KP d0 d1 d8 d11
  go_wp2_with fail
  go_ret2
  exact Q6G rfl ((by rw [Q6 HCs]; exact Q6 HA0:Bel w.heap.size w w0).trans ((Bel.of (Q6 HB)).mono (by rw [Q6 HCs]; omega))) (by rw [Q6 HCs]; exact hM) (Q6 HLs)
 have f5:(kind == 5)=false:=beq_eq_false_iff_ne.2 k5
 clear k5
 by_cases k6:kind=6
 ·subst k6
  have HC:=Qa hC
  have HSz:=Qa (fun j (h:j < sc.length)=>QdW sc j h)
  have HSz2:=Qa (fun j=>Q8X sc j)
  have HL0:=Qa ((Q6 HLs).bel (by rw [Q6 HCs]; exact Q6 HA0))
  have HT0 : Hid (∀ W, Bel M w0 W → Lib.TabBelow Tryz.prog M W "internal/strconv.uint64pow10" .u64 Lib.pow10Tab) := Qa fun W h1 W' h2 => Q6 HT W' (((Q6 HA0).mono hM).trans (h1.trans (Bel.of h2)))
  clear hC
  go_wp2_with fail
  go_loopg [15] (sc.length+1) (fun g vi w'=>∃ j n' m':Nat,vi=.int .i64 j∧j≤sc.length∧g=sc.length+1 - j∧n'≤n+j∧m'≤1048576∧Hid (m'≤m+szC (sc.take j))∧Hid (Lst w' M B n' m')∧Hid (Bel M w0 w')∧Hid (KFr w0 w'))
  case atStart=>exact ⟨0,n,m,rfl,Nat.zero_le _,rfl,Nat.le_refl _,by omega,Qa (Nat.le_refl _),HL0,Qa (Bel.refl _ _),Qa (KFr.refl _)⟩
  case round =>
   obtain ⟨j,n',m',rfl,hj,rfl,hnj,hm',HMz,HL,HB,HK⟩:=hrel
   have hCw:=Q6 HK C _ _ _ (by decide) (by decide) (by decide) (by decide) (by decide) (Q6 HC)
   have d10:wr.cell? ⟨C,10,none⟩=some (.slice aC sc.length cC):=Qc hCw 10
   clear hCw
   by_cases cj:j < sc.length
   ·obtain ⟨b,o,rfl,hb,x0,x1,x2⟩:=Ql6 ((Q6 HCk).bel (Q6 HB)) j cj
    have hf:=Q6 H12 j cj
    have hz3:=Q6 HSz j cj
    have hz4:=Q6 HSz2 (j+1)
    have hz5:=Q6 HMz
    have KP:=Qa (Qa5 M B n' m' sc[j].feed sc[j].s sc[j].look wr (Q6 HL) hf.1 hf.2 (by omega) (by omega) (Q6 HT0 _ (Q6 HB)))
    have hm2:m'+sc[j].s.size≤1048576:=by omega
    have HMn:Hid (m'+sc[j].s.size≤m+szC (sc.take (j+1))):=Qa (by omega)
    clear hz3 hz4 hz5 hf
    generalize sc[j]=ck at *
    obtain ⟨f,cs,look⟩:=ck
    simp only at x0 x1 x2 KP hm2 HMn
    go_wp2_with fail
    refine (Q6 KP).mono ?_
    rintro e w3 ⟨rfl,q1,q4,n2,q2,q3⟩
    have HB3:=Qa ((Q6 HB).trans (Bel.of q1))
    have HK3:=Qa ((Q6 HK).trans q4)
    have HL3:=Qa q3
    clear q1 q3 q4 KP
    go_wp2_with fail
    go_roundg (sc.length+1 - (j+1))
    case measure=>omega
    case rel=>exact ⟨j+1,n2,m'+cs.size,by go_num,by omega,rfl,by omega,hm2,HMn,HL3,HB3,HK3⟩
   ·have ej:j=sc.length:=by omega
    subst ej
    have hz6:=Q6 HMz
    rw [List.take_length] at hz6
    have HZ6:=Qa hz6
    clear hz6
    go_wp2_with fail
    go_ret2
    exact ⟨none,[],0,rfl,Nat.zero_le _,fun h=>absurd rfl h,((Q6 HA0).mono hM).trans (Q6 HB),(KFr.bel (by rw [Q6 HCs]; exact Q6 HA0)).trans (Q6 HK),n',m',hnj,Q6 HZ6,Q6 HL⟩
 have f6:(kind == 6)=false:=beq_eq_false_iff_ne.2 k6
 clear k6 hC
 go_wp2_with fail
 go_ret2
 exact Q6G rfl (by rw [Q6 HCs]; exact Q6 HA0) (by rw [Q6 HCs]; exact hM) (Q6 HLs)
def sxC (l:List Sx):List Value:=l.flatMap Sx.cells
def Q4D:List Sx→Nat
 | []=>0
 | x :: l=>x.sc.length+Q4D l
def szS:List Sx→Nat
 | []=>0
 | x :: l=>szC x.sc+szS l
theorem Q4H:∀ a b,Q4D (a++b)=Q4D a+Q4D b
 | [],b=>(Nat.zero_add _).symm
 | x :: a,b=>by show x.sc.length+Q4D (a++b)=x.sc.length+Q4D a+Q4D b; rw [Q4H a b]; omega
theorem Q5F:∀ a b,szS (a++b)=szS a+szS b
 | [],b=>(Nat.zero_add _).symm
 | x :: a,b=>by show szC x.sc+szS (a++b)=szC x.sc+szS a+szS b; rw [Q5F a b]; omega
theorem Qlf (l:List Sx) (j:Nat) (h:j < l.length):Q4D (l.take (j+1))=Q4D (l.take j)+l[j].sc.length∧szS (l.take (j+1))=szS (l.take j)+szC l[j].sc:=by
 rw [List.take_succ_eq_append_getElem h,Q4H,Q5F]
 exact ⟨rfl,rfl⟩
theorem Qgh (l:List Sx) (j:Nat):Q4D (l.take j)≤Q4D l∧szS (l.take j)≤szS l:=by
 have h1:Q4D l=Q4D (l.take j)+Q4D (l.drop j):=by rw [←Q4H,List.take_append_drop]
 have h2:szS l=szS (l.take j)+szS (l.drop j):=by rw [←Q5F,List.take_append_drop]
 omega
theorem Qg7 (l:List Sx):(sxC l).length=l.length * 12:=by
 induction l with
 | nil=>rfl
 | cons x l ih=>simp only [sxC,List.flatMap_cons,List.length_append,List.length_cons] at ih ⊢; rw [ih]; show 12+_=_; omega
theorem Qmo {w:World} {N:Nat} {a:Option Addr} {l:List Sx} (h:RowAt w N a (sxC l)) (i:Nat) (hi:i < l.length) :
  ∃ b o,a=some ⟨b,o,none⟩∧b < N∧∀ j,j < 12→w.cell? ⟨b,o+i * 12+j,none⟩=l[i].cells[j]?:=by
 obtain ⟨b,o,h1,h2,h3⟩:=h (fun e=>by have:=Qg7 l; rw [e] at this; simp at this; omega)
 refine ⟨b,o,h1,h2,fun j hj=>?_⟩
 have e:=Q85 Sx.cells 12 (fun _=>rfl) l i hi j hj
 have hl:j < l[i].cells.length:=by show j < 12; exact hj
 rw [List.getElem?_eq_getElem hl] at e ⊢
 rw [Nat.add_assoc]
 exact h3 _ _ e
theorem Lr.out1 {w w':World} {M n1 n2:Nat} {v1 v2:Value} {o1 o2:List Value} (h:Lr w M n1 n2 v1 v2 o1 o2) {v:Value} {n:Nat} {l:List Value} (ho:w'.ownsRow M 27 1 v n l) (hg:w.grownBy w' v1.ownBlock) (hat:v.ownBlock=v1.ownBlock∨v.ownBlock=some w.heap.size):Lr w' M n n2 v v2 l o2:=by
 refine ⟨ho,Q7Q h.h2 hg h.ap,fun g q1 q2=>?_⟩
 rcases hat with e | e
 ·exact h.ap g (e.symm.trans q1) q2
 ·rw [e] at q1
  cases q1
  exact absurd (h.h2.lt _ q2).2 (Nat.lt_irrefl _)
theorem Lr.out2 {w w':World} {M n1 n2:Nat} {v1 v2:Value} {o1 o2:List Value} (h:Lr w M n1 n2 v1 v2 o1 o2) {v:Value} {n:Nat} {l:List Value} (ho:w'.ownsRow M 27 1 v n l) (hg:w.grownBy w' v2.ownBlock) (hat:v.ownBlock=v2.ownBlock∨v.ownBlock=some w.heap.size):Lr w' M n1 n v1 v o1 l:=by
 refine ⟨Q7Q h.h1 hg h.ap.symm,ho,fun g q1 q2=>?_⟩
 rcases hat with e | e
 ·exact h.ap g q1 (e.symm.trans q2)
 ·rw [e] at q2
  cases q2
  exact absurd (h.h1.lt _ q1).2 (Nat.lt_irrefl _)
theorem RecAlike.app {w w':World} {o1 o2:List Value} {i:Nat} (h:RecAlike w o1 o2 i) {N:Nat} {v:Value} {n:Nat} {l:List Value} (ho:w.ownsRow N 27 1 v n l) (hg:w.grownBy w' v.ownBlock):RecAlike w' o1 o2 i:=by
 obtain ⟨a,c,a2,c2,T,q1,q2,q3,q4,q5⟩:=h
 exact ⟨a,c,a2,c2,T,q1,q2,q3,q4.app ho (by decide) hg,q5.app ho (by decide) hg⟩
theorem RecAlike.more {w:World} {o1 o2:List Value} {i:Nat} (h:RecAlike w o1 o2 i) (h1:i < o1.length) (h2:i < o2.length) (x y:Value):RecAlike w (o1++[x]) (o2++[y]) i:=by
 obtain ⟨a,c,a2,c2,T,q1,q2,q3⟩:=h
 exact ⟨a,c,a2,c2,T,by rw [List.getElem?_append_left h1]; exact q1,by rw [List.getElem?_append_left h2]; exact q2,q3⟩
set_option maxRecDepth 100000 in
set_option maxHeartbeats 4000000 in
theorem QjM (S:List Sx) (a:Option Addr) (c:Nat) (w:World) (hrow:RowAt w w.heap.size a (sxC S)) (hin:∀ i (h:i < S.length),StepIn S[i] w) (hl:S.length≤1048576) (hcl:Q4D S≤1048576) (hsz:szS S≤1048576)
  (htab : Lib.TabIs Tryz.prog w "internal/strconv.uint64pow10" .u64 Lib.pow10Tab) :
  Calls Tryz.prog 3 #[.slice a S.length c] w fun e w'=>e=.returned (.bool true)∧Bel w.heap.size w w':=by
 have K1:=Qa (QcF w)
 obtain ⟨M,hM⟩:∃ M,w.heap.size=M:=⟨_,rfl⟩
 have HRow:=Qa (fun W (h:Bel M w W)=>hrow.bel (by rw [hM]; exact h))
 have HIn:=Qa (fun i (h:i < S.length) W (hb:Bel M w W)=>(hin i h).bel (by rw [hM]; exact hb))
 have HCk:=Qa (fun i (h:i < S.length) W (hb:Bel M w W)=>(((hin i h).ck.bel (by rw [hM]; exact hb)).mono (Nat.le_of_eq hM):RowAt W M S[i].aC (ckC S[i].sc)))
 have HTab := Qa (fun W (hb : Bel M w W) => (Lib.tabBelow_of_tabIs htab (retape w W) (Bel.fake (by rw [hM]; exact hb)) : Lib.TabIs Tryz.prog (retape w W) "internal/strconv.uint64pow10" .u64 Lib.pow10Tab))
 have HTk:=Qa (fun j (h:j < S.length)=>Qlf S j h)
 have HTl:=Qa (fun j=>Qgh S j)
 obtain ⟨i5,hi,hz0,hz1,hz2⟩:=info_parts Tryz.infoRs
 have Hj:=Qa hi
 have Hy0:=Qa hz0
 have Hy1:=Qa hz1
 have Hy2:=Qa hz2
 clear hi hz0 hz1 hz2 hrow hin htab
 go_enter Tryz.func3,Tryz.ntmps3
 go_wp2_with fail
 refine (Q6 K1).mono ?_
 rintro e w1 ⟨vx,va,vg,R0,R1,rfl,q2,q3,q4⟩
 have HLs:=Qa (Ql4 q2 q3)
 have HB1:=Qa (Bel.of q4)
 have hs1:w.heap.size≤w1.heap.size:=q4.size
 clear q2 q3 q4 K1
 rw [hM] at hs1 HLs HB1
 simp only [hM]
 have HM:=Qa hM
 clear hM
 go_wp2_with fail
 go_loopg [5,6,7] (S.length+1) (fun g v5 v6 v7 w'=>∃ (j n m:Nat) (a5:Option Addr) (c5:Nat) (a6:Option Addr) (c6:Nat) (o1 o2:List Value),v7=.int .i64 j∧v5=.slice a5 j c5∧v6=.slice a6 j c6∧j≤S.length∧g=S.length+1 - j∧Hid (n≤Q4D (S.take j)∧m≤szS (S.take j))∧Hid (Lr w' M j j (.slice a5 j c5) (.slice a6 j c6) o1 o2)∧Hid (∀ i,i < j→RecAlike w' o1 o2 i)∧Hid (Lst w' M M n m)∧Hid (Bel M w w')∧M≤w'.heap.size)
 case atStart=>exact ⟨0,0,0,none,0,none,0,[],[],rfl,rfl,rfl,Nat.zero_le _,rfl,Qa ⟨Nat.zero_le _,Nat.zero_le _⟩,Qa ⟨World.ownsRow_nil _ _ _ _,World.ownsRow_nil _ _ _ _,fun g hg=>by simp [Value.ownBlock] at hg⟩,Qa (fun i hi=>by omega),HLs,HB1,hs1⟩
 case round =>
  obtain ⟨j,n,m,a5,c5,a6,c6,o1,o2,rfl,rfl,rfl,hj,rfl,HNm,HLr,HAl,HL,HB,hs⟩:=hrel
  by_cases cj:j < S.length
  ·obtain ⟨b,o,rfl,hb,hcell⟩:=Qmo (Q6 HRow _ (Q6 HB)) j cj
   have htk:=Q6 HTk j cj
   have htl:=Q6 HTl (j+1)
   have hnm:=Q6 HNm
   have KP:=Qa (Qjk S[j] M M n m j wr (Q6 HIn j cj wr (Q6 HB)) (Q6 HL) hs (by omega) (by omega) (by omega) (Q6 HCk j cj wr (Q6 HB)) (fun W hW=>Q6 HTab W ((Q6 HB).trans hW)))
   have HNm2:Hid (∀ n' m',n'≤n+S[j].sc.length→m'≤m+szC S[j].sc→n'≤Q4D (S.take (j+1))∧m'≤szS (S.take (j+1))∧n'≤1048576):=Qa fun n' m' h1 h2=>by omega
   clear htk htl hnm HNm
   generalize S[j]=x at *
   obtain ⟨kind,s,mi,a1,c1,a2,c2,a3,c3,a4,c4,l,aL,cL,t,aT,cT,sc,aC,cC,stream⟩:=x
   unfold Sx.val Sx.cells at KP
   have x0:wr.cell? ⟨b,o+j * 12,none⟩=some (.int .i64 kind):=hcell 0 (by omega)
   have x1:wr.cell? ⟨b,o+j * 12+1,none⟩=some (.string s):=hcell 1 (by omega)
   have x2:wr.cell? ⟨b,o+j * 12+2,none⟩=some (.int .i64 mi.id):=hcell 2 (by omega)
   have x3:wr.cell? ⟨b,o+j * 12+3,none⟩=some (.int .i64 mi.flags):=hcell 3 (by omega)
   have x4:wr.cell? ⟨b,o+j * 12+4,none⟩=some (.slice a1 mi.q.length c1):=hcell 4 (by omega)
   have x5:wr.cell? ⟨b,o+j * 12+5,none⟩=some (.slice a2 mi.a.length c2):=hcell 5 (by omega)
   have x6:wr.cell? ⟨b,o+j * 12+6,none⟩=some (.slice a3 mi.u.length c3):=hcell 6 (by omega)
   have x7:wr.cell? ⟨b,o+j * 12+7,none⟩=some (.slice a4 mi.x.length c4):=hcell 7 (by omega)
   have x8:wr.cell? ⟨b,o+j * 12+8,none⟩=some (.slice aL l.length cL):=hcell 8 (by omega)
   have x9:wr.cell? ⟨b,o+j * 12+9,none⟩=some (.slice aT t.length cT):=hcell 9 (by omega)
   have x10:wr.cell? ⟨b,o+j * 12+10,none⟩=some (.slice aC sc.length cC):=hcell 10 (by omega)
   have x11:wr.cell? ⟨b,o+j * 12+11,none⟩=some (.bool stream):=hcell 11 (by omega)
   clear hcell
   simp only at KP HNm2
   go_wp2_with fail
   refine (Q6 KP).mono ?_
   rintro e w2 ⟨ar,R,cr,rfl,hR,hr,hb2,hk2,n',m',hn',hm',hls⟩
   have hnm2:=Q6 HNm2 n' m' hn' hm'
   have HNm3:=Qa (show n'≤Q4D (S.take (j+1))∧m'≤szS (S.take (j+1)) from ⟨hnm2.1,hnm2.2.1⟩)
   have hn'':n'≤1048576:=hnm2.2.2
   have HR:=Qa hr
   have HL2:=Qa hls
   have HLr2:=Qa ((Q6 HLr).kfr hk2)
   have HAl2:=Qa (fun i (hi:i < j)=>(Q6 HAl i hi).kfr hk2)
   have HB2:=Qa ((Q6 HB).trans hb2)
   have hs2:M≤w2.heap.size:=Nat.le_trans hs hb2.size
   clear hr hls hk2 hb2 hn' hm' hnm2 HNm2 KP HLr HAl HL HB hs x0 x1 x2 x3 x4 x5 x6 x7 x8 x9 x10 x11
   have hA2:=(Below.refl w2.heap.size w2).alloc (Nat.le_refl _) (.cells #[.slice ar R.length cr] 27)
   have HLa:=Qa ((Q6 HLr2).kfr (KFr.below hA2))
   have HA2:=Qa hA2
   clear hA2
   go_upto_region 13 with (at_builtin; refine Qe _ rfl _ _ 26 26 rfl M 27 i5 (.slice none 0 0) 1 24 Tryz.underlying26 (Q6 Hj) (Q6 Hy0) (Q6 Hy1) (Q6 Hy2) rfl (.slice a5 j c5) j o1 (by rfl) (Q6 HLa).h1 (.slice (some ⟨w2.heap.size,0,none⟩) 1 1) 1 [.slice ar R.length cr] (by rfl) (Src.ofSlice _ Tryz.underlying26 ⟨w2.heap.size,0,none⟩ 1 1 _ rfl (Q1O _ _ _ _ rfl) (fun x hx=>by simp at hx; subst hx; rfl)) (by unfold maxLen; omega) (by omega) (by simp; omega) ?_; intro a7 e7 w3 hown3 hgrow3 hat3)
   have HL3:=Qa (((Q6 HL2).below (Q6 HA2)).app (Q6 HLa).h1 hgrow3)
   have HLr3:=Qa ((Q6 HLa).out1 hown3 hgrow3 hat3)
   have HAl3:=Qa (fun i (hi:i < j)=>((Q6 HAl2 i hi).kfr (KFr.below (Q6 HA2))).app (Q6 HLa).h1 hgrow3)
   have HR3:=Qa (((Q6 HR).kfr (KFr.below (Q6 HA2))).app (Q6 HLa).h1 (by decide) hgrow3)
   have hB3:=((Q6 HA2).mono hs2).trans (Qn (Q6 HLa).h1 hgrow3 (Nat.le_trans hs2 (Q6 HA2).size))
   have HB3:=Qa ((Q6 HB2).trans (Bel.of hB3))
   have hs3:M≤w3.heap.size:=Nat.le_trans hs2 hB3.size
   have KR:=Qa (Q2Y R ar cr w3.heap.size w3 (Q6 HR3).row (Nat.le_refl _) (by omega))
   clear hB3 hown3 hgrow3 hat3 HLa HA2 HL2 HLr2 HAl2 HR HB2 hs2
   generalize hRl:R.length=rl at *
   go_wp2_with fail
   refine (Q6 KR).mono ?_
   rintro e w4 ⟨⟨v,rfl,hroom⟩,hb4⟩
   obtain ⟨ao,co,rfl,hro⟩:=Qhe hroom
   have HL4:=Qa ((Q6 HL3).below hb4)
   have HLr4:=Qa ((Q6 HLr3).kfr (KFr.below hb4))
   have HAl4:=Qa (fun i (hi:i < j)=>(Q6 HAl3 i hi).kfr (KFr.below hb4))
   have HR4:=Qa ((Q6 HR3).kfr (KFr.below hb4))
   have HRo4:=Qa hro
   have HB4:=Qa ((Q6 HB3).trans (Bel.of (hb4.mono hs3)))
   have hs4:M≤w4.heap.size:=Nat.le_trans hs3 hb4.size
   clear hroom hro hb4 KR HL3 HLr3 HAl3 HR3 HB3 hs3
   rw [hRl]
   have hA4:=(Below.refl w4.heap.size w4).alloc (Nat.le_refl _) (.cells #[.slice ao rl co] 27)
   have HLa:=Qa ((Q6 HLr4).kfr (KFr.below hA4))
   have HA4:=Qa hA4
   have HRl:=Qa hRl
   clear hA4 hRl
   go_upto_region 15 with (at_builtin; refine Qe _ rfl _ _ 26 26 rfl M 27 i5 (.slice none 0 0) 1 24 Tryz.underlying26 (Q6 Hj) (Q6 Hy0) (Q6 Hy1) (Q6 Hy2) rfl (.slice a6 j c6) j o2 (by rfl) (Q6 HLa).h2 (.slice (some ⟨w4.heap.size,0,none⟩) 1 1) 1 [.slice ao rl co] (by rfl) (Src.ofSlice _ Tryz.underlying26 ⟨w4.heap.size,0,none⟩ 1 1 _ rfl (Q1O _ _ _ _ rfl) (fun x hx=>by simp at hx; subst hx; rfl)) (by unfold maxLen; omega) (by omega) (by simp; omega) ?_; intro a8 e8 w5 hown5 hgrow5 hat5)
   have HL5:=Qa (((Q6 HL4).below (Q6 HA4)).app (Q6 HLa).h2 hgrow5)
   have hol1:o1.length=j:=by have:=(Q6 HLr4).h1.1; rw [List.length_append] at this; simp at this; omega
   have hol2:o2.length=j:=by have:=(Q6 HLr4).h2.1; omega
   have HLr5:=Qa ((Q6 HLa).out2 hown5 hgrow5 hat5)
   have HAl5:Hid (∀ i,i < j+1→RecAlike w5 (o1++[.slice ar rl cr]) (o2++[.slice ao rl co]) i):=Qa fun i hi=>by
    by_cases ei:i < j
    ·exact (((Q6 HAl4 i ei).kfr (KFr.below (Q6 HA4))).app (Q6 HLa).h2 hgrow5).more (by omega) (by omega) _ _
    ·have ein:i=j:=by omega
     subst ein
     refine ⟨ar,cr,ao,co,R,?_,?_,by rw [Q6 HRl]; exact hR,((Q6 HR4).kfr (KFr.below (Q6 HA4))).app (Q6 HLa).h2 (by decide) hgrow5,((Q6 HRo4).kfr (KFr.below (Q6 HA4))).app (Q6 HLa).h2 (by decide) hgrow5⟩
     ·rw [Q6 HRl,List.getElem?_append_right (by omega),hol1,Nat.sub_self]; rfl
     ·rw [Q6 HRl,List.getElem?_append_right (by omega),hol2,Nat.sub_self]; rfl
   have hB5:=((Q6 HA4).mono hs4).trans (Qn (Q6 HLa).h2 hgrow5 (Nat.le_trans hs4 (Q6 HA4).size))
   have HB5:=Qa ((Q6 HB4).trans (Bel.of hB5))
   have hs5:M≤w5.heap.size:=Nat.le_trans hs4 hB5.size
   have KL:=Qa (QcX (Q6 HL5) (by omega))
   clear hB5 hown5 hgrow5 hat5 HLa HA4 HL4 HLr4 HAl4 HR4 HRo4 HB4 hs4 hol1 hol2
   generalize o1++[.slice ar rl cr]=p1 at *
   generalize o2++[.slice ao rl co]=p2 at *
   go_wp2_with fail
   refine (Q6 KL).mono ?_
   rintro e w6 ⟨rfl,t0,hw6⟩
   have HW0:=Qa hw6
   clear hw6 KL
   go_wp2_with fail
   go_loopw [4,11] (fun v4 vk w'=>∃ k t:Nat,v4=.bool true∧vk=.int .i64 k∧k≤j+1∧Hid (w'=w5.drewN t)) (fun _ vk _=>j+1 - (intOf vk).toNat)
   case atStart=>exact ⟨0,t0,rfl,rfl,by omega,HW0⟩
   case round =>
    obtain ⟨k,t,rfl,rfl,hk,HW⟩:=hrel
    by_cases ck:k < j+1
    ·obtain ⟨a,c',b2,c2',T,q1,q2,q3,q4,q5⟩:=Q6 HAl5 k ck
     obtain ⟨g1,rfl,y1⟩:=Q7P (Q6 HLr5).h1 k _ q1
     obtain ⟨g2,rfl,y2⟩:=Q7P (Q6 HLr5).h2 k _ q2
     have z1:wr.cell? ⟨g1,k,none⟩=some (.slice a T.length c'):=by rw [Q6 HW]; exact y1
     have z2:wr.cell? ⟨g2,k,none⟩=some (.slice b2 T.length c2'):=by rw [Q6 HW]; exact y2
     have Key:Hid (∀ W:World,RowAt W w5.heap.size a (rcI T)→RowAt W w5.heap.size b2 (rcI T)→Calls Tryz.prog 8 #[.slice a T.length c',.slice b2 T.length c2'] W fun e w'=>e=.returned (.bool true)∧∃ n,w'=W.drewN n):=Qa fun W r1 r2=>Q1E T a b2 c' c2' _ _ W r1 r2 (by omega)
     have Q4:Hid (RowAt wr w5.heap.size a (rcI T)):=by rw [Q6 HW]; exact Qa q4.row
     have Q5:Hid (RowAt wr w5.heap.size b2 (rcI T)):=by rw [Q6 HW]; exact Qa q5.row
     clear q1 q2 q3 q4 q5 y1 y2
     generalize T.length=tl at *
     have k1:(k:Int) < (j:Int)+1:=by omega
     go_wp2_with fail
     go_quiet (first | (go_at_call 8; exact Calls.quiet_of (Q6 Key _ (by exact Q6 Q4) (by exact Q6 Q5))))
     go_wp2_with fail
     exact ⟨⟨k+1,t+nq,rfl,by go_num,by omega,Qa (by rw [Q6 HW,World.drewN_drewN])⟩,by simp [intOf]; omega⟩
    ·go_wp2_with fail
     go_roundg (S.length+1 - (j+1))
     case measure=>omega
     case rel =>
      have hbd:=Q0S w5.heap.size w5 t
      refine ⟨j+1,n',m',a7,e7,a8,e8,p1,p2,by go_num,rfl,rfl,by omega,rfl,HNm3,Qa ?_,Qa ?_,Qa ?_,Qa ?_,?_⟩
      ·rw [Q6 HW]; exact (Q6 HLr5).kfr (KFr.below hbd)
      ·rw [Q6 HW]; exact fun i hi=>(Q6 HAl5 i hi).kfr (KFr.below hbd)
      ·rw [Q6 HW]; exact (Q6 HL5).below hbd
      ·rw [Q6 HW]; exact (Q6 HB5).trans (Bel.of (hbd.mono hs5))
      ·rw [Q6 HW]; exact hs5
  ·go_wp2_with fail
   go_ret
   exact ⟨rfl,by rw [Q6 HM]; exact Q6 HB⟩
end Go.Proofs.YtdhobdmhnocbgabGreatDoor
