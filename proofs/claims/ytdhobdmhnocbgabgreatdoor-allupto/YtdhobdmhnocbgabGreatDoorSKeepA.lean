import Derived.Test.YtdhobdmhnocbgabGreatDoorSMsgx
import Derived.Test.YtdhobdmhnocbgabGreatDoorSSerW
import Derived.Test.YtdhobdmhnocbgabGreatDoorSParseX
import Derived.Deep.QuietTactic
import Derived.BigQuiet
namespace Go.Proofs.YtdhobdmhnocbgabGreatDoor
open Zr
theorem Qj6 (B:ByteArray) (K:List (ByteArray × Nat)) (d:ByteArray) (hI:Inv (fun _=>False) B K) (z:ByteArray):∀ j,(∀ i,i < j→∃ x,Q05 d (Q0m K d (B++z).size i).2.2=.ok (x,x.size)) →
  Inv (fun i=>B.size≤i∧i < B.size+z.size) (B++z++(Q0m K d (B++z).size j).1) (Q0m K d (B++z).size j).2.1:=by
 intro j
 induction j with
 | zero =>
  intro _
  have h1:=hI.open z
  have e:B++z++(⟨#[]⟩:ByteArray)=B++z:=by apply ByteArray.ext; simp [ByteArray.data_append]
  show Inv _ (B++z++(⟨#[]⟩:ByteArray)) K
  rw [e]
  exact h1
 | succ j ih =>
  intro h
  obtain ⟨x,hx⟩:=h j (by omega)
  have h1:=ih (fun i hi=>h i (by omega))
  rw [Q5D K d _ j x x.size hx]
  have hw:=Q1G d _ x _ hx
  obtain ⟨t1,t2⟩:=Qaw hw
  have h2:=(Qao _ _ _ x (fun i hi=>by rw [ByteArray.size_append,ByteArray.size_append]; omega) h1 t2 t1).1
  have e:(B++z++(Q0m K d (B++z).size j).1).size=(B++z).size+(Q0m K d (B++z).size j).1.size:=ByteArray.size_append
  rw [Q07,e] at h2
  exact h2
theorem Qlg (B z y S:ByteArray) (hz:z.size=y.size) (i:Nat) (h:¬ (B.size≤i∧i < B.size+z.size)):bt (B++y++S) i=bt (B++z++S) i:=by
 by_cases c:i < B.size
 ·rw [Q03,if_pos (by rw [ByteArray.size_append]; omega),Q03,if_pos c,Q03,if_pos (by rw [ByteArray.size_append]; omega),Q03,if_pos c]
 ·rw [Q03,if_neg (by rw [ByteArray.size_append]; omega),Q03,if_neg (by rw [ByteArray.size_append]; omega),ByteArray.size_append,ByteArray.size_append,hz]
theorem Qi3 (B:ByteArray) (K:List (ByteArray × Nat)) (d:ByteArray) (t:Nat) (hI:Inv (fun _=>False) B K) (hd:Q1Y t d) (z y:ByteArray) (hz:z.size=y.size) :
  Inv (fun _=>False) (B++y++(Q1B K d t (B++z).size).1) (Q1B K d t (B++z).size).2:=by
 have h1:=Qj6 B K d hI z (Q01 t) (Q4b K d t _ hd)
 have h2:=h1.append (d.extract (Q0m K d (B++z).size (Q01 t)).2.2 d.size)
 rw [Q07] at h2
 refine h2.shut ?_ (fun i _ hq=>?_)
 ·show (B++z++(Q1B K d t (B++z).size).1).size=(B++y++(Q1B K d t (B++z).size).1).size
  generalize (Q1B K d t (B++z).size).1=A
  simp only [ByteArray.size_append]
  omega
 ·exact Qlg B z y _ hz i hq
def Q32 (st:St):Prop:=Inv (fun _=>False) st.1 st.2
theorem Q92 {st:St} (h:Q32 st) {s:ByteArray} (hs:Q09 s=true):Q32 (Q30 st s):=by
 obtain ⟨t1,t2⟩:=Qaw hs
 exact (Qao _ _ _ s (fun i hi=>hi.elim) h t2 t1).1
theorem Q3U {st:St} (h:Q32 st) (s:ByteArray):Q32 (Q2o st s):=Inv.append h s
theorem Qfo {st:St} (h:Q32 st) {q:QI} (hq:Q2J q):Q32 (Qb5 st q.nat) :=
 Q3U (Q3U (Q92 h hq.1) _) _
theorem Q91 {st:St} (h:Q32 st) {x:RI} (hx:Q2l x):Q32 (Q1s st x.nat) :=
 Q3U (Q3U (Q3U (Q3U (Q92 h hx.1) _) _) _) _
theorem Qfp {st:St} (h:Q32 st) {x:RI} (hx:Q2l x):Q32 (Q6K st x.nat):=by
 have h1:=Q91 h hx
 obtain ⟨_,_,_,_,_,_,n7⟩:=Q3j hx
 have h2:=Qi3 (Q1s st x.nat).1 (Q1s st x.nat).2 x.nat.data x.nat.ty h1 n7 (wd 0) (wd (Q1B (Q1s st x.nat).2 x.nat.data x.nat.ty ((Q1s st x.nat).1.size+2)).1.size) rfl
 have e:((Q1s st x.nat).1++wd 0).size=(Q1s st x.nat).1.size+2:=by rw [ByteArray.size_append,Q00]
 rw [e] at h2
 exact h2
theorem QdU {st:St} (h:Q32 st) {x:RI} (hx:Q2l x):Q32 (Q08 st x.nat):=by
 unfold Q08
 split
 ·exact h
 ·exact Qfp h hx
theorem QdT {st:St} (h:Q32 st) {x:QI} (hx:Q2J x):Q32 (Q0J st x.nat):=by
 unfold Q0J
 split
 ·exact h
 ·exact Qfo h hx
theorem Q5X {st:St} (h:Q32 st):∀ (l:List RI),(∀ x,x∈l→Q2l x)→Q32 ((l.map RI.nat).foldl Q08 st):=by
 intro l
 induction l generalizing st with
 | nil=>intro _; exact h
 | cons x l ih=>intro hl; exact ih (QdU h (hl x (by simp))) (fun y hy=>hl y (List.mem_cons_of_mem _ hy))
theorem Q8L {st:St} (h:Q32 st):∀ (l:List QI),(∀ x,x∈l→Q2J x)→Q32 ((l.map QI.nat).foldl Q0J st):=by
 intro l
 induction l generalizing st with
 | nil=>intro _; exact h
 | cons x l ih=>intro hl; exact ih (QdT h (hl x (by simp))) (fun y hy=>hl y (List.mem_cons_of_mem _ hy))
end Go.Proofs.YtdhobdmhnocbgabGreatDoor
namespace Go.Proofs.YtdhobdmhnocbgabGreatDoor
open Go.RowKit Zr
theorem WFrame.box {N k:Nat} {w a:World} {cs:Array Value} (h:WFrame N w a) (hr:w.heap[k]? = some (.cells cs 61 (0,0))):a.heap[k]? = some (.cells cs 61 (0,0)) :=
 h.kind k _ _ _ hr (by decide) (by decide) (by decide)
theorem WFrame.boxM {N k:Nat} {w a:World} {cs:Array Value} (h:WFrame N w a) (hr:w.heap[k]? = some (.cells cs 32 (0,0))):a.heap[k]? = some (.cells cs 32 (0,0)) :=
 h.kind k _ _ _ hr (by decide) (by decide) (by decide)
def WrS (w:World) (N R:Nat) (st:St):Prop:=Wr w N R st.1 st.2
theorem Q4z (N R:Nat) (st:St) (v:Int) (n:Nat) (hv:v=(n:Int)) (w:World) (h:WrS w N R st) (hB:st.1.size≤399998) (hn:n < 65536) :
  Calls Tryz.prog 121 #[.pointer (some ⟨R,0,none⟩),.int .i64 v] w fun e w'=>e=.returned (.tuple #[])∧WrS w' N R (Q2o st (wd n))∧WFrame N w w':=by
 subst hv
 exact Qm6 N R st.1 st.2 n w h hB hn
theorem Qbu (N R:Nat) (st:St) (s:ByteArray) (w:World) (h:WrS w N R st) (hF:Q3n st) (hB:st.1.size≤200000) (hs:Q09 s=true) :
  Calls Tryz.prog 156 #[.pointer (some ⟨R,0,none⟩),.string s] w fun e w'=>e=.returned (.tuple #[])∧WrS w' N R (Q30 st s)∧WFrame N w w':=by
 have h1:=hF.1
 exact Qlw N R st.1 st.2 s w h (by omega) hF.2 (by omega) hs
set_option maxRecDepth 100000 in
set_option maxHeartbeats 2000000 in
theorem Qj0 (N R:Nat) (st:St) (x:RI) (w:World) (h:WrS w N R st) (hF:Q3n st) (hB:st.1.size≤65535) (hx:Q2l x) :
  Calls Tryz.prog 157 #[.pointer (some ⟨R,0,none⟩),Q55 x] w fun e w'=>e=.returned (.tuple #[])∧WrS w' N R (Q6K st x.nat)∧WFrame N w w':=by
 obtain ⟨n1,n2,n3,n4,n5,n6,n7⟩:=Q3j hx
 obtain ⟨y1,y2,y3,y4,y5⟩:=hx
 unfold Q1J at y2 y3
 obtain ⟨s1,hs1⟩:∃ s,Q30 st x.nat.name=s:=⟨_,rfl⟩
 obtain ⟨s2,hs2⟩:∃ s,Q2o s1 (wd x.nat.ty)=s:=⟨_,rfl⟩
 obtain ⟨s3,hs3⟩:∃ s,Q2o s2 (wd x.nat.cl)=s:=⟨_,rfl⟩
 obtain ⟨s4,hs4⟩:∃ s,Q2o s3 (wd (x.nat.ttl / 65536))=s:=⟨_,rfl⟩
 obtain ⟨s5,hs5⟩:∃ s,Q2o s4 (wd (x.nat.ttl % 65536))=s:=⟨_,rfl⟩
 have hh:Q1s st x.nat=s5:=by unfold Q1s; rw [hs1,hs2,hs3,hs4,hs5]
 obtain ⟨dd,hdd⟩:∃ d,Q1B s5.2 x.nat.data x.nat.ty (s5.1.size+2)=d:=⟨_,rfl⟩
 have hres:Q6K st x.nat=(s5.1++wd dd.1.size++dd.1,dd.2):=by unfold Q6K; rw [hh,hdd]
 have f1:=Q3T hF x.nat.name
 rw [hs1] at f1
 have f2:=Q2n f1.1 (wd x.nat.ty)
 rw [hs2,Q00] at f2
 have f3:=Q2n f2.1 (wd x.nat.cl)
 rw [hs3,Q00] at f3
 have f4:=Q2n f3.1 (wd (x.nat.ttl / 65536))
 rw [hs4,Q00] at f4
 have f5:=Q2n f4.1 (wd (x.nat.ttl % 65536))
 rw [hs5,Q00] at f5
 have f6:=Q7X s5.2 x.nat.data x.nat.ty (s5.1.size+2) f5.1.2
 rw [hdd] at f6
 have f5':=f5.1.1
 have key1:=fun w (h:WrS w N R st)=>Qbu N R st x.nat.name w h hF (by omega) n6
 rw [hs1] at key1
 have key2:=fun w (h:WrS w N R s1)=>Q4z N R s1 x.ty x.nat.ty (by show x.ty=((x.ty.toNat:Nat):Int); omega) w h (by omega) (by omega)
 rw [hs2] at key2
 have key3:=fun w (h:WrS w N R s2)=>Q4z N R s2 x.cl x.nat.cl (by show x.cl=((x.cl.toNat:Nat):Int); omega) w h (by omega) (by omega)
 rw [hs3] at key3
 have key4:=fun w=>Qkl x.ttl x.nat.ttl w (by show x.ttl=((x.ttl.toNat:Nat):Int); omega) (by show x.ttl.toNat < _; omega)
 have key5:=fun w (h:WrS w N R s3)=>Q9a N R s3.1 s3.2 (q4 x.nat.ttl) w h (by omega) (by rw [Q2C]; omega)
 have e5:s3.1++q4 x.nat.ttl=s5.1∧s3.2=s5.2:=by
  rw [←hs5,←hs4]
  unfold Q2o q4
  exact ⟨ByteArray.append_assoc.symm,rfl⟩
 rw [e5.1,e5.2] at key5
 obtain ⟨lf,hlf⟩:∃ s,q4 x.nat.ttl=s:=⟨_,rfl⟩
 rw [hlf] at key4 key5
 have key6:=fun w (h:WrS w N R s5)=>QdK N R s5.1 s5.2 x.nat.data x.nat.ty (s5.1.size+2) w h (by omega) f5.1.2 (by omega) n7
 rw [hdd] at key6
 have key6':∀ w,WrS w N R s5→∀ v:Int,v=((s5.1.size:Nat):Int)+2→Calls Tryz.prog 180 #[.pointer (some ⟨R,0,none⟩),.string x.data,.int .i64 x.ty,.int .i64 v] w fun e w'=>e=.returned (.string dd.1)∧Wr w' N R s5.1 dd.2∧WFrame N w w':=by
  intro w h v hv
  have h1:=key6 w h
  have e1:((x.nat.ty:Nat):Int)=x.ty:=by show ((x.ty.toNat:Nat):Int)=_; omega
  have e2:((s5.1.size+2:Nat):Int)=v:=by omega
  rw [e1,e2] at h1
  exact h1
 have hd6:=Qai s5.2 x.nat.data x.nat.ty (s5.1.size+2) n7
 rw [hdd] at hd6
 have key7:=fun w (h:Wr w N R s5.1 dd.2)=>Q4z N R (s5.1,dd.2) ((dd.1.size:Nat):Int) dd.1.size rfl w h (by show s5.1.size≤_; omega) (by omega)
 have key8:=fun w (h:Wr w N R (s5.1++wd dd.1.size) dd.2)=>Q9a N R (s5.1++wd dd.1.size) dd.2 dd.1 w h (by rw [ByteArray.size_append,Q00]; omega) (by omega)
 have K1:=Qa key1
 have K2:=Qa key2
 have K3:=Qa key3
 have K4:=Qa key4
 have K5:=Qa key5
 have K6:=Qa key6'
 have K7:=Qa key7
 have K8:=Qa key8
 have HRes:=Qa hres
 have H:=Qa h
 have hsz5:s5.1.size≤65535+300:=by omega
 have hdz:dd.1.size≤65535:=by omega
 clear key1 key2 key3 key4 key5 key6 key6' key7 key8 hres h hs1 hs2 hs3 hs4 hs5 hh hdd hlf e5 f1 f2 f3 f4 f5 f5' f6 n6 n7 y1 y5 hd6
 rw [Q6 HRes]
 have e1:x.nat.name=x.name:=rfl
 rw [e1] at K1
 unfold Q55
 obtain ⟨nm,ty,kl,ttl,dt⟩:=x
 simp only at *
 obtain ⟨y41,y42⟩:=y4
 generalize hB0:(w.alloc (.cells #[.string nm,.int .i64 ty,.int .i64 kl,.int .i64 ttl,.string dt] 61))=W0
 have hW0:W0.heap[w.heap.size]? = some (.cells #[.string nm,.int .i64 ty,.int .i64 kl,.int .i64 ttl,.string dt] 61 (0,0)):=by rw [←hB0]; exact heap_alloc_new _ _
 have hB1:Below w.heap.size w W0:=by rw [←hB0]; exact (Below.refl _ _).alloc (Nat.le_refl _) _
 have HB0:=Qa hB0
 clear hB0
 go_enter Tryz.func157,Tryz.ntmps157
 go_wp2_with fail
 rw [Q6 HB0]
 clear HB0
 refine (Q6 K1 _ ((Q6 H).below hB1)).mono ?_
 rintro e w1 ⟨rfl,h1,g1⟩
 have X1:=Qa (g1.box hW0)
 have G1:=Qa ((WFrame.of_below (N:=N) hB1).trans g1)
 have H1:=Qa h1
 clear h1 g1 hW0 hB1
 obtain ⟨⟨b0,b1,b2,b3,b4⟩,z0,z1,z2,z3,z4⟩:=Q1a (Q6 X1)
 go_wp2_with fail
 refine (Q6 K2 _ (Q6 H1)).mono ?_
 rintro e w2 ⟨rfl,h2,g2⟩
 have X2:=Qa (g2.box (Q6 X1))
 have G2:=Qa ((Q6 G1).trans g2)
 have H2:=Qa h2
 clear h2 g2 b0 b1 b2 b3 b4 z0 z1 z2 z3 z4
 obtain ⟨⟨b0,b1,b2,b3,b4⟩,z0,z1,z2,z3,z4⟩:=Q1a (Q6 X2)
 go_wp2_with fail
 refine (Q6 K3 _ (Q6 H2)).mono ?_
 rintro e w3 ⟨rfl,h3,g3⟩
 have X3:=Qa (g3.box (Q6 X2))
 have G3:=Qa ((Q6 G2).trans g3)
 have H3:=Qa h3
 clear h3 g3 b0 b1 b2 b3 b4 z0 z1 z2 z3 z4
 obtain ⟨⟨b0,b1,b2,b3,b4⟩,z0,z1,z2,z3,z4⟩:=Q1a (Q6 X3)
 go_wp2_with fail
 refine (Q6 K4 _).mono ?_
 rintro e w4 ⟨rfl,g4⟩
 have X4:=Qa ((g4.block _ (Qb (Q6 X3))).trans (Q6 X3))
 have G4:=Qa ((Q6 G3).trans (WFrame.of_below g4))
 have H4:Hid (WrS w4 N R s3):=Qa (Wr.below (Q6 H3) g4)
 clear g4 b0 b1 b2 b3 b4 z0 z1 z2 z3 z4
 obtain ⟨⟨b0,b1,b2,b3,b4⟩,z0,z1,z2,z3,z4⟩:=Q1a (Q6 X4)
 go_wp2_with fail
 refine (Q6 K5 _ (Q6 H4)).mono ?_
 rintro e w5 ⟨rfl,h5,g5⟩
 have X5:=Qa (g5.box (Q6 X4))
 have G5:=Qa ((Q6 G4).trans g5)
 have H5:=Qa h5
 obtain ⟨vb,ab,cb,vk,ak,ck,hR,hN,rfl,rfl,o1,o2⟩:=h5
 obtain ⟨c0,c1,v0,v1⟩:=Q3F hR
 clear hR o1 o2 g5 b0 b1 b2 b3 b4 z0 z1 z2 z3 z4
 obtain ⟨⟨b0,b1,b2,b3,b4⟩,z0,z1,z2,z3,z4⟩:=Q1a (Q6 X5)
 go_wp2_with fail
 refine (Q6 K6 _ (Q6 H5) _ rfl).mono ?_
 rintro e w6 ⟨rfl,h6,g6⟩
 have G6:=Qa ((Q6 G5).trans g6)
 have H6:=Qa h6
 clear h6 g6 b0 b1 b2 b3 b4 z0 z1 z2 z3 z4 c0 c1 v0 v1
 go_wp2_with fail
 refine (Q6 K7 _ (Q6 H6)).mono ?_
 rintro e w7 ⟨rfl,h7,g7⟩
 have G7:=Qa ((Q6 G6).trans g7)
 have H7:=Qa h7
 clear h7 g7
 go_wp2_with fail
 refine (Q6 K8 _ (Q6 H7)).mono ?_
 rintro e w8 ⟨rfl,h8,g8⟩
 have G8:=Qa ((Q6 G7).trans g8)
 have H8:=Qa h8
 clear h8 g8
 go_wp2_with fail
 go_end0
 exact ⟨rfl,Q6 H8,Q6 G8⟩
theorem Q6u (N R:Nat) (st:St) (w:World) (h:WrS w N R st) (hB:st.1.size≤400000) (b:Bool) (hb:Hid (decide (65535 < st.1.size)=b)) :
  Calls Tryz.prog 83 #[.pointer (some ⟨R,0,none⟩)] w fun e w'=>e=.returned (.bool b)∧w'=w:=by
 rw [←Q6 hb]
 exact Qlm N R st.1 st.2 w h hB
set_option maxRecDepth 100000 in
set_option maxHeartbeats 2000000 in
theorem Qdq (N R:Nat) (st:St) (l:List QI) (a:Option Addr) (c:Nat) (w:World) (h:WrS w N R st) (hF:Q3n st) (hB:st.1.size≤140000) (hl:Q7a l) (hrow:RowAt w N a (qcI l)) (hN:N≤w.heap.size) :
  Calls Tryz.prog 122 #[.pointer (some ⟨R,0,none⟩),.slice a l.length c] w fun e w'=>e=.returned (.tuple #[])∧WrS w' N R ((l.map QI.nat).foldl Q0J st)∧WFrame N w w':=by
 have HF:=Qa hF
 have HRow:=Qa hrow
 have HL:=Qa hl
 have hlen:=hl.1
 have H:=Qa h
 have HAt:=Qa (fun (i:Nat) (hi:i < l.length)=>Q9c Q0J QI.nat l st i hi)
 have HRest:=Qa (Q6t Q0J QI.nat l st)
 have HFine:=Qa (fun i=>Q4r hF hB (l.take i) (fun x hx=>Q43 hl x (List.mem_of_mem_take hx)))
 clear hF hrow hl h
 obtain ⟨res,hres⟩:∃ r,(l.map QI.nat).foldl Q0J st=r:=⟨_,rfl⟩
 rw [hres]
 have HRes:=Qa hres
 clear hres
 go_enter Tryz.func122,Tryz.ntmps122
 go_wp2_with fail
 go_loopw [4] (fun i w'=>∃ j:Nat,i=.int .i64 j∧j≤l.length∧Hid (WrS w' N R (((l.take j).map QI.nat).foldl Q0J st))∧Hid (WFrame N w w')) (fun i _=>l.length - (intOf i).toNat)
 case atStart=>exact ⟨0,rfl,Nat.zero_le _,H,WFrame.refl _ _⟩
 case round =>
  obtain ⟨j,rfl,hj,hW,hG⟩:=hrel
  have hfin:=Q6 HFine j
  by_cases cj:j < l.length
  ·by_cases cf:65535 < (((l.take j).map QI.nat).foldl Q0J st).1.size
   ·have hend:((l.take j).map QI.nat).foldl Q0J st=res:=by
     rw [←Q6 HRes,Q6 HRest j]
     exact (Q5o Q0J Qas _ cf _).symm
    have HEnd:=Qa hend
    have hd:Hid (decide (65535 < (((l.take j).map QI.nat).foldl Q0J st).1.size)=true):=decide_eq_true cf
    have hz:=hfin.2
    clear hend cf hfin
    generalize ((l.take j).map QI.nat).foldl Q0J st=s at *
    go_wp2_with fail
    refine (Q6u N R s _ (Q6 hW) (by omega) true hd).mono ?_
    rintro e w' ⟨rfl,rfl⟩
    go_wp2_with fail
    go_end0
    exact ⟨rfl,by rw [←Q6 HEnd]; exact Q6 hW,Q6 hG⟩
   ·have hnx:=Q6 HAt j cj
    have hq:=(Q6 HL).2 j cj
    obtain ⟨q1,q2,q3,q4⟩:=Q6C hq
    obtain ⟨_,q5,q6⟩:=hq
    unfold Q1J at q5 q6
    obtain ⟨b,o,rfl,hb,x0,x1,x2⟩:=Q6T ((Q6 HRow).below ((Q6 hG).below hN)) j cj
    have hd:Hid (decide (65535 < (((l.take j).map QI.nat).foldl Q0J st).1.size)=false):=decide_eq_false cf
    generalize ((l.take j).map QI.nat).foldl Q0J st=s at *
    have hst:Q0J s l[j].nat=Qb5 s l[j].nat:=by unfold Q0J; rw [if_neg cf]
    rw [hst] at hnx
    obtain ⟨s1,hs1⟩:∃ s',Q30 s l[j].nat.name=s':=⟨_,rfl⟩
    obtain ⟨s2,hs2⟩:∃ s',Q2o s1 (wd l[j].nat.ty)=s':=⟨_,rfl⟩
    have hwq:Qb5 s l[j].nat=Q2o s2 (wd l[j].nat.cl):=by unfold Qb5; rw [hs1,hs2]
    rw [hwq] at hnx
    have f1:=Q3T hfin.1 l[j].nat.name
    rw [hs1] at f1
    have f2:=Q2n f1.1 (wd l[j].nat.ty)
    rw [hs2,Q00] at f2
    have key1:=fun w (h:WrS w N R s)=>Qbu N R s l[j].nat.name w h hfin.1 (by omega) q4
    rw [hs1] at key1
    have key2:=fun w (h:WrS w N R s1)=>Q4z N R s1 l[j].ty l[j].nat.ty (by show l[j].ty=((l[j].ty.toNat:Nat):Int); omega) w h (by omega) (by omega)
    rw [hs2] at key2
    have key3:=fun w (h:WrS w N R s2)=>Q4z N R s2 l[j].cl l[j].nat.cl (by show l[j].cl=((l[j].cl.toNat:Nat):Int); omega) w h (by omega) (by omega)
    have e1:l[j].nat.name=l[j].name:=rfl
    rw [e1] at key1
    have K1:=Qa key1
    have K2:=Qa key2
    have K3:=Qa key3
    have HNx:=Qa hnx
    have hz:=hfin.2
    clear key1 key2 key3 hnx hst hs1 hs2 hwq f1 f2 q1 q2 q3 q4 q5 q6 e1 hfin cf
    obtain ⟨sn,hsn⟩:∃ s',Q2o s2 (wd l[j].nat.cl)=s':=⟨_,rfl⟩
    rw [hsn] at K3 HNx
    clear hsn
    generalize l[j]=q at *
    obtain ⟨nm,ty,kl⟩:=q
    simp only at *
    go_wp2_with fail
    refine (Q6u N R s _ (Q6 hW) (by omega) false hd).mono ?_
    rintro e w' ⟨rfl,rfl⟩
    go_wp2_with fail
    refine (Q6 K1 _ (Q6 hW)).mono ?_
    rintro e w1 ⟨rfl,h1,g1⟩
    have y1:=((g1.below (Nat.le_trans hN (Q6 hG).size)).cell (p:=⟨b,o+j * 3+1,none⟩) hb).trans x1
    have y2:=((g1.below (Nat.le_trans hN (Q6 hG).size)).cell (p:=⟨b,o+j * 3+2,none⟩) hb).trans x2
    have G1:=Qa ((Q6 hG).trans g1)
    have H1:=Qa h1
    clear h1 g1 x0 x1 x2 hW hG
    go_wp2_with fail
    refine (Q6 K2 _ (Q6 H1)).mono ?_
    rintro e w2 ⟨rfl,h2,g2⟩
    have x2:=((g2.below (Nat.le_trans hN (Q6 G1).size)).cell (p:=⟨b,o+j * 3+2,none⟩) hb).trans y2
    have G2:=Qa ((Q6 G1).trans g2)
    have H2:=Qa h2
    clear h2 g2 y1 y2
    go_wp2_with fail
    refine (Q6 K3 _ (Q6 H2)).mono ?_
    rintro e w3 ⟨rfl,h3,g3⟩
    have G3:=Qa ((Q6 G2).trans g3)
    have H3:=Qa h3
    clear h3 g3 x2
    go_wp2_with fail
    go_roundw
    case rel=>exact ⟨j+1,by go_num,by omega,by rw [Q6 HNx]; exact H3,G3⟩
    case measure=>simp [intOf]; omega
  ·have hjn:l.take j=l:=List.take_of_length_le (by omega)
   rw [hjn,Q6 HRes] at hW
   clear hfin hjn
   go_wp2_with fail
   go_end0
   exact ⟨rfl,Q6 hW,Q6 hG⟩
set_option maxRecDepth 100000 in
set_option maxHeartbeats 2000000 in
theorem Q8w (N R:Nat) (st:St) (l:List RI) (part:Nat) (a:Option Addr) (c:Nat) (w:World) (h:WrS w N R st) (hF:Q3n st) (hB:st.1.size≤140000) (hl:Q1H l part) (hrow:RowAt w N a (rcI l)) (hN:N≤w.heap.size) :
  Calls Tryz.prog 123 #[.pointer (some ⟨R,0,none⟩),.slice a l.length c] w fun e w'=>e=.returned (.tuple #[])∧WrS w' N R ((l.map RI.nat).foldl Q08 st)∧WFrame N w w':=by
 have HF:=Qa hF
 have HRow:=Qa hrow
 have HL:=Qa hl
 have hlen:=hl.1
 have H:=Qa h
 have HAt:=Qa (fun (i:Nat) (hi:i < l.length)=>Q9c Q08 RI.nat l st i hi)
 have HRest:=Qa (Q6t Q08 RI.nat l st)
 have HFine:=Qa (fun i=>Q2a hF hB (l.take i) (fun x hx=>Q1L hl x (List.mem_of_mem_take hx)))
 clear hF hrow hl h
 obtain ⟨res,hres⟩:∃ r,(l.map RI.nat).foldl Q08 st=r:=⟨_,rfl⟩
 rw [hres]
 have HRes:=Qa hres
 clear hres
 go_enter Tryz.func123,Tryz.ntmps123
 go_wp2_with fail
 go_loopw [4] (fun i w'=>∃ j:Nat,i=.int .i64 j∧j≤l.length∧Hid (WrS w' N R (((l.take j).map RI.nat).foldl Q08 st))∧Hid (WFrame N w w')) (fun i _=>l.length - (intOf i).toNat)
 case atStart=>exact ⟨0,rfl,Nat.zero_le _,H,WFrame.refl _ _⟩
 case round =>
  obtain ⟨j,rfl,hj,hW,hG⟩:=hrel
  have hfin:=Q6 HFine j
  by_cases cj:j < l.length
  ·by_cases cf:65535 < (((l.take j).map RI.nat).foldl Q08 st).1.size
   ·have hend:((l.take j).map RI.nat).foldl Q08 st=res:=by
     rw [←Q6 HRes,Q6 HRest j]
     exact (Q5o Q08 Qat _ cf _).symm
    have HEnd:=Qa hend
    have hd:Hid (decide (65535 < (((l.take j).map RI.nat).foldl Q08 st).1.size)=true):=decide_eq_true cf
    have hz:=hfin.2
    clear hend cf hfin
    generalize ((l.take j).map RI.nat).foldl Q08 st=s at *
    go_wp2_with fail
    refine (Q6u N R s _ (Q6 hW) (by omega) true hd).mono ?_
    rintro e w' ⟨rfl,rfl⟩
    go_wp2_with fail
    go_end0
    exact ⟨rfl,by rw [←Q6 HEnd]; exact Q6 hW,Q6 hG⟩
   ·have hnx:=Q6 HAt j cj
    have hq:=((Q6 HL).2 j cj).1
    obtain ⟨b,o,rfl,hb,x0,x1,x2,x3,x4⟩:=Q2R ((Q6 HRow).below ((Q6 hG).below hN)) j cj
    have hd:Hid (decide (65535 < (((l.take j).map RI.nat).foldl Q08 st).1.size)=false):=decide_eq_false cf
    generalize ((l.take j).map RI.nat).foldl Q08 st=s at *
    have hst:Q08 s l[j].nat=Q6K s l[j].nat:=by unfold Q08; rw [if_neg cf]
    rw [hst] at hnx
    have key1:=fun w (h:WrS w N R s)=>Qj0 N R s l[j] w h hfin.1 (by omega) hq
    unfold Q55 at key1
    have K1:=Qa key1
    have HNx:=Qa hnx
    have hz:=hfin.2
    clear key1 hnx hst hfin cf hq
    obtain ⟨sn,hsn⟩:∃ s',Q6K s l[j].nat=s':=⟨_,rfl⟩
    rw [hsn] at K1 HNx
    clear hsn
    generalize l[j]=q at *
    obtain ⟨nm,ty,kl,ttl,dt⟩:=q
    simp only at *
    go_wp2_with fail
    refine (Q6u N R s _ (Q6 hW) (by omega) false hd).mono ?_
    rintro e w' ⟨rfl,rfl⟩
    go_wp2_with fail
    refine (Q6 K1 _ (Q6 hW)).mono ?_
    rintro e w1 ⟨rfl,h1,g1⟩
    have G1:=Qa ((Q6 hG).trans g1)
    have H1:=Qa h1
    clear h1 g1 x0 x1 x2 x3 x4 hW hG
    go_wp2_with fail
    go_roundw
    case rel=>exact ⟨j+1,by go_num,by omega,by rw [Q6 HNx]; exact H1,G1⟩
    case measure=>simp [intOf]; omega
  ·have hjn:l.take j=l:=List.take_of_length_le (by omega)
   rw [hjn,Q6 HRes] at hW
   clear hfin hjn
   go_wp2_with fail
   go_end0
   exact ⟨rfl,Q6 hW,Q6 hG⟩
theorem Qax (m:Msg):Q3n (Q3G m)∧(Q3G m).1.size=12:=by
 unfold Q3G Q3n
 simp only [ByteArray.size_append,Q00]
 exact ⟨⟨Nat.zero_le _,KOk.nil⟩,trivial⟩
set_option maxRecDepth 100000 in
set_option maxHeartbeats 2000000 in
theorem QgQ (N R:Nat) (m:MI) (v:Value) (w:World) (h:WrS w N R (⟨#[]⟩,[])) (hm:MsgAt w N v m) (hok:Q1A m) (hN:N≤w.heap.size) :
  Calls Tryz.prog 82 #[.pointer (some ⟨R,0,none⟩),v] w fun e w'=>e=.returned (.tuple #[])∧WrS w' N R (Q3m m.nat)∧WFrame N w w':=by
 obtain ⟨a1,c1,a2,c2,a3,c3,a4,c4,rfl,r1,r2,r3,r4,z1,z2,z3,z4,_⟩:=hm
 clear z1 z2 z3 z4
 obtain ⟨o1,o2,o3,o4,o5,o6⟩:=hok
 unfold Q1J at o1 o2
 have l1:=o3.1
 have l2:=o4.1
 have l3:=o5.1
 have l4:=o6.1
 obtain ⟨t1,ht1⟩:∃ s,Q2o (⟨#[]⟩,[]) (wd m.nat.id)=s:=⟨_,rfl⟩
 obtain ⟨t2,ht2⟩:∃ s,Q2o t1 (wd m.nat.flags)=s:=⟨_,rfl⟩
 obtain ⟨t3,ht3⟩:∃ s,Q2o t2 (wd m.q.length)=s:=⟨_,rfl⟩
 obtain ⟨t4,ht4⟩:∃ s,Q2o t3 (wd m.a.length)=s:=⟨_,rfl⟩
 obtain ⟨t5,ht5⟩:∃ s,Q2o t4 (wd m.u.length)=s:=⟨_,rfl⟩
 obtain ⟨t6,ht6⟩:∃ s,Q2o t5 (wd m.x.length)=s:=⟨_,rfl⟩
 have htop:Q3G m.nat=t6:=by
  rw [←ht6,←ht5,←ht4,←ht3,←ht2,←ht1]
  unfold Q3G Q2o MI.nat
  simp only [List.length_map,empty_append]
 have hz1:t1.1.size=2:=by rw [←ht1]; rfl
 have hz2:t2.1.size=4:=by rw [←ht2]; unfold Q2o; simp only [ByteArray.size_append,Q00]; omega
 have hz3:t3.1.size=6:=by rw [←ht3]; unfold Q2o; simp only [ByteArray.size_append,Q00]; omega
 have hz4:t4.1.size=8:=by rw [←ht4]; unfold Q2o; simp only [ByteArray.size_append,Q00]; omega
 have hz5:t5.1.size=10:=by rw [←ht5]; unfold Q2o; simp only [ByteArray.size_append,Q00]; omega
 have f0:=Qax m.nat
 rw [htop] at f0
 have fq:=Q4r f0.1 (by omega) m.q (Q43 o3)
 obtain ⟨s1,hs1⟩:∃ s,(m.q.map QI.nat).foldl Q0J t6=s:=⟨_,rfl⟩
 rw [hs1] at fq
 have fa:=Q2a fq.1 fq.2 m.a (Q1L o4)
 obtain ⟨s2,hs2⟩:∃ s,(m.a.map RI.nat).foldl Q08 s1=s:=⟨_,rfl⟩
 rw [hs2] at fa
 have fu:=Q2a fa.1 fa.2 m.u (Q1L o5)
 obtain ⟨s3,hs3⟩:∃ s,(m.u.map RI.nat).foldl Q08 s2=s:=⟨_,rfl⟩
 rw [hs3] at fu
 have hres:Q3m m.nat=(m.x.map RI.nat).foldl Q08 s3:=by
  unfold Q3m
  rw [htop,←hs3,←hs2,←hs1]
  rfl
 rw [hres]
 have key1:=fun w (h:WrS w N R (⟨#[]⟩,[]))=>Q4z N R (⟨#[]⟩,[]) m.id m.nat.id (by show m.id=((m.id.toNat:Nat):Int); omega) w h (by show 0≤_; omega) (by show m.id.toNat < _; omega)
 rw [ht1] at key1
 have key2:=fun w (h:WrS w N R t1)=>Q4z N R t1 m.flags m.nat.flags (by show m.flags=((m.flags.toNat:Nat):Int); omega) w h (by omega) (by show m.flags.toNat < _; omega)
 rw [ht2] at key2
 have key3:=fun w (h:WrS w N R t2)=>Q4z N R t2 ((m.q.length:Nat):Int) m.q.length rfl w h (by omega) (by omega)
 rw [ht3] at key3
 have key4:=fun w (h:WrS w N R t3)=>Q4z N R t3 ((m.a.length:Nat):Int) m.a.length rfl w h (by omega) (by omega)
 rw [ht4] at key4
 have key5:=fun w (h:WrS w N R t4)=>Q4z N R t4 ((m.u.length:Nat):Int) m.u.length rfl w h (by omega) (by omega)
 rw [ht5] at key5
 have key6:=fun w (h:WrS w N R t5)=>Q4z N R t5 ((m.x.length:Nat):Int) m.x.length rfl w h (by omega) (by omega)
 rw [ht6] at key6
 have key7:=fun W (h:WrS W N R t6) (hb:Below N w W) (hs:N≤W.heap.size)=>Qdq N R t6 m.q a1 c1 W h f0.1 (by omega) o3 (r1.below hb) hs
 rw [hs1] at key7
 have key8:=fun W (h:WrS W N R s1) (hb:Below N w W) (hs:N≤W.heap.size)=>Q8w N R s1 m.a 0 a2 c2 W h fq.1 fq.2 o4 (r2.below hb) hs
 rw [hs2] at key8
 have key9:=fun W (h:WrS W N R s2) (hb:Below N w W) (hs:N≤W.heap.size)=>Q8w N R s2 m.u 1 a3 c3 W h fa.1 fa.2 o5 (r3.below hb) hs
 rw [hs3] at key9
 have key10:=fun W (h:WrS W N R s3) (hb:Below N w W) (hs:N≤W.heap.size)=>Q8w N R s3 m.x 2 a4 c4 W h fu.1 fu.2 o6 (r4.below hb) hs
 obtain ⟨s4,hs4⟩:∃ s,(m.x.map RI.nat).foldl Q08 s3=s:=⟨_,rfl⟩
 rw [hs4] at key10 ⊢
 have K1:=Qa key1
 have K2:=Qa key2
 have K3:=Qa key3
 have K4:=Qa key4
 have K5:=Qa key5
 have K6:=Qa key6
 have K7:=Qa key7
 have K8:=Qa key8
 have K9:=Qa key9
 have K10:=Qa key10
 have H:=Qa h
 clear key1 key2 key3 key4 key5 key6 key7 key8 key9 key10 h htop hres ht1 ht2 ht3 ht4 ht5 ht6 hs1 hs2 hs3 hs4 f0 fq fa fu r1 r2 r3 r4 o3 o4 o5 o6
 obtain ⟨id,fl,q,a,u,x⟩:=m
 simp only at *
 generalize hB0:(w.alloc (.cells #[.int .i64 id,.int .i64 fl,.slice a1 q.length c1,.slice a2 a.length c2,.slice a3 u.length c3,.slice a4 x.length c4] 32))=W0
 have hW0:W0.heap[w.heap.size]? = some (.cells #[.int .i64 id,.int .i64 fl,.slice a1 q.length c1,.slice a2 a.length c2,.slice a3 u.length c3,.slice a4 x.length c4] 32 (0,0)):=by rw [←hB0]; exact heap_alloc_new _ _
 have hB1:Below w.heap.size w W0:=by rw [←hB0]; exact (Below.refl _ _).alloc (Nat.le_refl _) _
 have HB0:=Qa hB0
 clear hB0
 go_enter Tryz.func82,Tryz.ntmps82
 go_wp2_with fail
 rw [Q6 HB0]
 clear HB0
 obtain ⟨⟨b0,b1,b2,b3,b4,b5⟩,y0,y1,y2,y3,y4,y5⟩:=Qh hW0
 refine (Q6 K1 _ ((Q6 H).below hB1)).mono ?_
 rintro e w1 ⟨rfl,h1,g1⟩
 have X1:=Qa (g1.boxM hW0)
 have G1:=Qa ((WFrame.of_below (N:=N) hB1).trans g1)
 have H1:=Qa h1
 clear h1 g1 hW0 hB1 b0 b1 b2 b3 b4 b5 y0 y1 y2 y3 y4 y5
 obtain ⟨⟨b0,b1,b2,b3,b4,b5⟩,y0,y1,y2,y3,y4,y5⟩:=Qh (Q6 X1)
 go_wp2_with fail
 refine (Q6 K2 _ (Q6 H1)).mono ?_
 rintro e w2 ⟨rfl,h2,g2⟩
 have X2:=Qa (g2.boxM (Q6 X1))
 have G2:=Qa ((Q6 G1).trans g2)
 have H2:=Qa h2
 clear h2 g2 b0 b1 b2 b3 b4 b5 y0 y1 y2 y3 y4 y5
 obtain ⟨⟨b0,b1,b2,b3,b4,b5⟩,y0,y1,y2,y3,y4,y5⟩:=Qh (Q6 X2)
 go_wp2_with fail
 refine (Q6 K3 _ (Q6 H2)).mono ?_
 rintro e w3 ⟨rfl,h3,g3⟩
 have X3:=Qa (g3.boxM (Q6 X2))
 have G3:=Qa ((Q6 G2).trans g3)
 have H3:=Qa h3
 clear h3 g3 b0 b1 b2 b3 b4 b5 y0 y1 y2 y3 y4 y5
 obtain ⟨⟨b0,b1,b2,b3,b4,b5⟩,y0,y1,y2,y3,y4,y5⟩:=Qh (Q6 X3)
 go_wp2_with fail
 refine (Q6 K4 _ (Q6 H3)).mono ?_
 rintro e w4 ⟨rfl,h4,g4⟩
 have X4:=Qa (g4.boxM (Q6 X3))
 have G4:=Qa ((Q6 G3).trans g4)
 have H4:=Qa h4
 clear h4 g4 b0 b1 b2 b3 b4 b5 y0 y1 y2 y3 y4 y5
 obtain ⟨⟨b0,b1,b2,b3,b4,b5⟩,y0,y1,y2,y3,y4,y5⟩:=Qh (Q6 X4)
 go_wp2_with fail
 refine (Q6 K5 _ (Q6 H4)).mono ?_
 rintro e w5 ⟨rfl,h5,g5⟩
 have X5:=Qa (g5.boxM (Q6 X4))
 have G5:=Qa ((Q6 G4).trans g5)
 have H5:=Qa h5
 clear h5 g5 b0 b1 b2 b3 b4 b5 y0 y1 y2 y3 y4 y5
 obtain ⟨⟨b0,b1,b2,b3,b4,b5⟩,y0,y1,y2,y3,y4,y5⟩:=Qh (Q6 X5)
 go_wp2_with fail
 refine (Q6 K6 _ (Q6 H5)).mono ?_
 rintro e w6 ⟨rfl,h6,g6⟩
 have X6:=Qa (g6.boxM (Q6 X5))
 have G6:=Qa ((Q6 G5).trans g6)
 have H6:=Qa h6
 clear h6 g6 b0 b1 b2 b3 b4 b5 y0 y1 y2 y3 y4 y5
 obtain ⟨⟨b0,b1,b2,b3,b4,b5⟩,y0,y1,y2,y3,y4,y5⟩:=Qh (Q6 X6)
 go_wp2_with fail
 refine (Q6 K7 _ (Q6 H6) ((Q6 G6).below hN) (Nat.le_trans hN (Q6 G6).size)).mono ?_
 rintro e w7 ⟨rfl,h7,g7⟩
 have X7:=Qa (g7.boxM (Q6 X6))
 have G7:=Qa ((Q6 G6).trans g7)
 have H7:=Qa h7
 clear h7 g7 b0 b1 b2 b3 b4 b5 y0 y1 y2 y3 y4 y5
 obtain ⟨⟨b0,b1,b2,b3,b4,b5⟩,y0,y1,y2,y3,y4,y5⟩:=Qh (Q6 X7)
 go_wp2_with fail
 refine (Q6 K8 _ (Q6 H7) ((Q6 G7).below hN) (Nat.le_trans hN (Q6 G7).size)).mono ?_
 rintro e w8 ⟨rfl,h8,g8⟩
 have X8:=Qa (g8.boxM (Q6 X7))
 have G8:=Qa ((Q6 G7).trans g8)
 have H8:=Qa h8
 clear h8 g8 b0 b1 b2 b3 b4 b5 y0 y1 y2 y3 y4 y5
 obtain ⟨⟨b0,b1,b2,b3,b4,b5⟩,y0,y1,y2,y3,y4,y5⟩:=Qh (Q6 X8)
 go_wp2_with fail
 refine (Q6 K9 _ (Q6 H8) ((Q6 G8).below hN) (Nat.le_trans hN (Q6 G8).size)).mono ?_
 rintro e w9 ⟨rfl,h9,g9⟩
 have X9:=Qa (g9.boxM (Q6 X8))
 have G9:=Qa ((Q6 G8).trans g9)
 have H9:=Qa h9
 clear h9 g9 b0 b1 b2 b3 b4 b5 y0 y1 y2 y3 y4 y5
 obtain ⟨⟨b0,b1,b2,b3,b4,b5⟩,y0,y1,y2,y3,y4,y5⟩:=Qh (Q6 X9)
 go_wp2_with fail
 refine (Q6 K10 _ (Q6 H9) ((Q6 G9).below hN) (Nat.le_trans hN (Q6 G9).size)).mono ?_
 rintro e wX ⟨rfl,hX,gX⟩
 have GX:=Qa ((Q6 G9).trans gX)
 have HX:=Qa hX
 clear hX gX b0 b1 b2 b3 b4 b5 y0 y1 y2 y3 y4 y5
 go_wp2_with fail
 go_end0
 exact ⟨rfl,Q6 HX,Q6 GX⟩
theorem Qm7 (w:World) (N:Nat) (hN:N≤w.heap.size):WrS (w.alloc (.cells #[.slice none 0 0,.slice none 0 0] 131)) N w.heap.size (⟨#[]⟩,[]) :=
 ⟨_,none,0,_,none,0,heap_alloc_new _ _,hN,rfl,rfl,World.ownsRow_nil _ _ _ _,World.ownsRow_nil _ _ _ _⟩
theorem MsgAt.mono {w:World} {N M:Nat} {v:Value} {m:MI} (h:MsgAt w N v m) (hb:N≤M):MsgAt w M v m:=by
 obtain ⟨a1,c1,a2,c2,a3,c3,a4,c4,e,r1,r2,r3,r4,z⟩:=h
 exact ⟨a1,c1,a2,c2,a3,c3,a4,c4,e,r1.mono hb,r2.mono hb,r3.mono hb,r4.mono hb,z⟩
def Q7r (m:MI) (e:Ending):Prop:=∃ s x,e=.returned (.tuple #[.string s,.int .i64 x])∧SerIs m s x
set_option maxRecDepth 100000 in
set_option maxHeartbeats 2000000 in
theorem Q3D (m:MI) (v:Value) (w:World) (hm:MsgAt w w.heap.size v m) :
  Calls Tryz.prog 48 #[v] w fun e w'=>Q7r m e∧Below w.heap.size w w':=by
 obtain ⟨N,hN⟩:∃ N,w.heap.size=N:=⟨_,rfl⟩
 rw [hN] at hm ⊢
 have HM:=Qa hm
 obtain ⟨a1,c1,a2,c2,a3,c3,a4,c4,rfl,_⟩:=hm
 obtain ⟨v,hv⟩:∃ v,Value.agg #[.int .i64 m.id,.int .i64 m.flags,.slice a1 m.q.length c1,.slice a2 m.a.length c2,.slice a3 m.u.length c3,.slice a4 m.x.length c4]=v:=⟨_,rfl⟩
 have HM':Hid (MsgAt w N v m):=by show MsgAt _ _ _ _; rw [←hv]; exact Q6 HM
 clear HM
 generalize hB0:(w.alloc (.cells #[.int .i64 m.id,.int .i64 m.flags,.slice a1 m.q.length c1,.slice a2 m.a.length c2,.slice a3 m.u.length c3,.slice a4 m.x.length c4] 32))=W0
 have hW0:W0.heap[N]? = some (.cells #[.int .i64 m.id,.int .i64 m.flags,.slice a1 m.q.length c1,.slice a2 m.a.length c2,.slice a3 m.u.length c3,.slice a4 m.x.length c4] 32 (0,0)):=by rw [←hB0,←hN]; exact heap_alloc_new _ _
 have hB1:Below N w W0:=by rw [←hB0,←hN]; exact (Below.refl _ _).alloc (Nat.le_refl _) _
 have hs0:W0.heap.size=N+1:=by rw [←hB0]; simp; omega
 have key1:=fun W (hb:Below N w W) (hs:N≤W.heap.size)=>QaR m v N W ((Q6 HM').below hb) hs
 have key2:=fun W (hb:Below N w W) (hs:N≤W.heap.size) R (hr:WrS W N R (⟨#[]⟩,[])) (hok:Q1A m)=>QgQ N R m v W hr ((Q6 HM').below hb) hok hs
 have K1:=Qa key1
 have K2:=Qa key2
 have HB0:=Qa hB0
 have hcm:Hid (Q1A m→(Q3m m.nat).1.size≤140000):=fun hok=>by
  obtain ⟨o1,o2,o3,o4,o5,o6⟩:=hok
  have f0:=Qax m.nat
  have fq:=Q4r f0.1 (by omega) m.q (Q43 o3)
  have fa:=Q2a fq.1 fq.2 m.a (Q1L o4)
  have fu:=Q2a fa.1 fa.2 m.u (Q1L o5)
  have fx:=Q2a fu.1 fu.2 m.x (Q1L o6)
  exact fx.2
 have HV:=Qa hv
 clear key1 key2 hB0 hv HM'
 have HS:Hid (∀ s x,SerIs m s x↔((¬ Q1A m∧s=⟨#[]⟩∧x=7)∨(Q1A m∧65535 < (Q3m m.nat).1.size∧s=⟨#[]⟩∧x=1)∨(Q1A m∧¬ 65535 < (Q3m m.nat).1.size∧s=(Q3m m.nat).1∧x=0))):=fun s x=>Iff.rfl
 unfold Q7r
 generalize SerIs m=S at *
 generalize Q1A m=ok at *
 generalize Q3m m.nat=st at *
 obtain ⟨id,fl,q,a,u,x⟩:=m
 simp only at *
 go_enter Tryz.func48,Tryz.ntmps48
 obtain ⟨⟨b0,b1,b2,b3,b4,b5⟩,y0,y1,y2,y3,y4,y5⟩:=Qh hW0
 go_wp2_with fail
 rw [Q6 HB0]
 rw [←Q6 HV] at K1 K2
 clear HB0 HV
 refine (Q6 K1 _ hB1 (by omega)).mono ?_
 rintro e w1 ⟨⟨b,rfl,hb⟩,hb1⟩
 have HOk:=Qa hb
 have hB2:=hB1.trans (hb1.mono (by omega))
 have X1:=Qa ((hb1.block N (by omega)).trans hW0)
 have hsz:=hB2.size
 clear hb hW0 b0 b1 b2 b3 b4 b5 y0 y1 y2 y3 y4 y5 K1
 obtain ⟨⟨b0,b1,b2,b3,b4,b5⟩,y0,y1,y2,y3,y4,y5⟩:=Qh (Q6 X1)
 cases b with
 | false =>
  go_wp2_with fail
  go_ret2
  exact ⟨⟨_,_,rfl,(Q6 HS _ _).2 (.inl ⟨fun h=>absurd ((Q6 HOk).2 h) (by simp),rfl,rfl⟩)⟩,hB2⟩
 | true =>
  have hok:ok:=(Q6 HOk).1 (by simp)
  have hst:=Q6 hcm hok
  have hlt1:=Qb (Q6 X1)
  obtain ⟨R,hR⟩:∃ R,w1.heap.size=R:=⟨_,rfl⟩
  have p1:WrS (w1.alloc (.cells #[.slice none 0 0,.slice none 0 0] 131)) N R (⟨#[]⟩,[]):=hR ▸ Qm7 w1 N (by omega)
  have p2:Below N w (w1.alloc (.cells #[.slice none 0 0,.slice none 0 0] 131)):=hB2.trans (((Below.refl _ _).alloc (Nat.le_refl _) _).mono (by omega))
  have p3:N≤(w1.alloc (.cells #[.slice none 0 0,.slice none 0 0] 131)).heap.size:=by simp; omega
  obtain ⟨⟨n0,n1,n2,n3,n4,n5⟩,m0,m1,m2,m3,m4,m5⟩:=Qh ((Below.heap_alloc w1 (.cells #[.slice none 0 0,.slice none 0 0] 131) N hlt1).trans (Q6 X1))
  have P1:=Qa p1
  have P2:=Qa p2
  have P3:=Qa p3
  clear p1 p2 p3 b0 b1 b2 b3 b4 b5 y0 y1 y2 y3 y4 y5
  go_wp2_with fail
  refine (Q6 K2 _ (Q6 P2) (Q6 P3) R (Q6 P1) hok).mono ?_
  rintro e w2 ⟨rfl,h2,g2⟩
  have hB3:=(Q6 P2).trans (g2.below (Q6 P3))
  have H2:=Qa h2
  clear h2 g2 n0 n1 n2 n3 n4 n5 m0 m1 m2 m3 m4 m5
  obtain ⟨B,K⟩:=st
  simp only at *
  by_cases cf:65535 < B.size
  ·have hd:Hid (decide (65535 < B.size)=true):=decide_eq_true cf
   go_wp2_with fail
   refine (Q6u N R (B,K) _ (Q6 H2) (by show B.size≤_; omega) true hd).mono ?_
   rintro e w' ⟨rfl,rfl⟩
   go_wp2_with fail
   go_ret2
   exact ⟨⟨_,_,rfl,(Q6 HS _ _).2 (.inr (.inl ⟨hok,cf,rfl,rfl⟩))⟩,hB3⟩
  ·have hd:Hid (decide (65535 < B.size)=false):=decide_eq_false cf
   go_wp2_with fail
   refine (Q6u N R (B,K) _ (Q6 H2) (by show B.size≤_; omega) false hd).mono ?_
   rintro e w' ⟨rfl,rfl⟩
   obtain ⟨vb,ab,cb,vk,ak,ck,hR,hN,rfl,rfl,o1,o2⟩:=Q6 H2
   obtain ⟨d0,d1,z0,z1⟩:=Q3F hR
   have O1:=Qa o1
   clear hR o1 o2
   simp only at *
   go_wp2_with fail
   rw [Q1v _ 128 9 5 Tryz.underlying128 Tryz.underlying5 Tryz.underlying9 N _ B (Q6 O1)]
   go_wp2_with fail
   go_ret2
   exact ⟨⟨_,_,rfl,(Q6 HS _ _).2 (.inr (.inr ⟨hok,cf,rfl,rfl⟩))⟩,hB3⟩
theorem Q87 (m:MI) (v:Value) (w:World) (hm:MsgAt w w.heap.size v m) :
  Calls Tryz.prog 25 #[v] w fun e w'=>Q7r m e∧Below w.heap.size w w':=by
 have key:=fun W (hb:Below w.heap.size w W)=>Q3D m v W ((hm.below hb).mono hb.size)
 obtain ⟨a1,c1,a2,c2,a3,c3,a4,c4,rfl,_⟩:=hm
 have Key:=Qa key
 clear key
 have hB1:∀ o,Below w.heap.size w (w.alloc o):=fun o=>(Below.refl _ _).alloc (Nat.le_refl _) _
 have HB1:=Qa hB1
 clear hB1
 go_enter Tryz.func25,Tryz.ntmps25
 go_wp2_with fail
 refine (Q6 Key _ (Q6 HB1 _)).mono ?_
 rintro e w1 ⟨⟨s,x,rfl,hs⟩,hb1⟩
 have HS:=Qa hs
 clear hs
 go_wp2_with fail
 go_ret2
 exact ⟨⟨_,_,rfl,Q6 HS⟩,(Q6 HB1 _).trans (hb1.mono (by simp))⟩
end Go.Proofs.YtdhobdmhnocbgabGreatDoor
namespace Go.Proofs.YtdhobdmhnocbgabGreatDoor
open Zr
def Pre (B B':ByteArray):Prop:=B.size≤B'.size∧∀ i,i < B.size→bt B' i=bt B i
theorem Pre.refl (B:ByteArray):Pre B B:=⟨Nat.le_refl _,fun _ _=>rfl⟩
theorem Pre.trans {A B C:ByteArray} (h:Pre A B) (k:Pre B C):Pre A C :=
 ⟨by have:=h.1; have:=k.1; omega,fun i hi=>by rw [k.2 i (by have:=h.1; omega),h.2 i hi]⟩
theorem Qa4 (A s:ByteArray):Pre A (A++s) :=
 ⟨by rw [ByteArray.size_append]; omega,fun i hi=>by rw [Q03,if_pos hi]⟩
theorem Pre.left {A s C:ByteArray} (h:Pre (A++s) C):Pre A C:=(Qa4 A s).trans h
theorem Pre.at {A s C:ByteArray} (h:Pre (A++s) C) (j:Nat) (hj:j < s.size):bt C (A.size+j)=bt s j:=by
 rw [h.2 _ (by rw [ByteArray.size_append]; omega),Q03,if_neg (by omega)]
 congr 1; omega
theorem Pre.cut {A s C:ByteArray} (h:Pre (A++s) C):C.extract A.size (A.size+s.size)=s:=by
 have h1:=h.1
 rw [ByteArray.size_append] at h1
 apply Q3b
 ·rw [ByteArray.size_extract]; omega
 ·intro i hi
  have hi':i < s.size:=by rw [ByteArray.size_extract] at hi; omega
  rw [Q2p _ _ _ i (by omega) (by omega),h.at i hi']
theorem Pre.word {A C:ByteArray} {n:Nat} (h:Pre (A++wd n) C) (hn:n < 65536):num C A.size 2=n:=by
 have h0:=h.at 0 (by rw [Q00]; omega)
 have h1:=h.at 1 (by rw [Q00]; omega)
 rw [Qmt n hn] at h0
 rw [Qmu] at h1
 simp only [num]
 rw [h0,h1]
 omega
theorem QaF (st:St) (s:ByteArray):(Q30 st s).1.size=st.1.size+(Q1p st.2 s st.1.size).1.size:=ByteArray.size_append
theorem Q8D (st:St) (s:ByteArray):(Q2o st s).1.size=st.1.size+s.size:=ByteArray.size_append
def Q5K (l:List RI):Nat:=l.foldl (fun n x=>n+x.name.size+10+x.data.size) 0
def Qfl (l:List QI):Nat:=l.foldl (fun n x=>n+x.name.size+4) 12
def whl (m:MI):Nat:=Qfl m.q+Q5K m.a+Q5K m.u+Q5K m.x
theorem QgD (l:List RI):∀ k,l.foldl (fun n x=>n+x.name.size+10+x.data.size) k=k+Q5K l:=by
 unfold Q5K
 induction l with
 | nil=>intro k; rfl
 | cons x l ih =>
  intro k
  rw [List.foldl_cons,List.foldl_cons,ih,ih (0+x.name.size+10+x.data.size)]
  omega
theorem Qji (st:St) {q:QI} (hq:Q2J q):(Q0J st q.nat).1.size≤st.1.size+q.name.size+4:=by
 unfold Q0J
 split
 ·omega
 ·show (Q2o (Q2o (Q30 st q.nat.name) (wd q.nat.ty)) (wd q.nat.cl)).1.size≤_
  have:=Qan st.2 q.nat.name st.1.size hq.1
  rw [Q8D,Q8D,Q00,Q00,QaF]
  show _≤st.1.size+q.nat.name.size+4
  omega
theorem Qjj (st:St) {x:RI} (hx:Q2l x):(Q08 st x.nat).1.size≤st.1.size+x.name.size+10+x.data.size:=by
 unfold Q08
 split
 ·omega
 ·obtain ⟨_,n2,n3,n4,n5,n6,n7⟩:=Q3j hx
  have h1:=Qan st.2 x.nat.name st.1.size n6
  have h2:=Qai (Q1s st x.nat).2 x.nat.data x.nat.ty ((Q1s st x.nat).1.size+2) n7
  show ((Q1s st x.nat).1++wd (Q1B (Q1s st x.nat).2 x.nat.data x.nat.ty ((Q1s st x.nat).1.size+2)).1.size++(Q1B (Q1s st x.nat).2 x.nat.data x.nat.ty ((Q1s st x.nat).1.size+2)).1).size≤_
  generalize (Q1B (Q1s st x.nat).2 x.nat.data x.nat.ty ((Q1s st x.nat).1.size+2)).1=S at *
  have eh:(Q1s st x.nat).1.size=st.1.size+(Q1p st.2 x.nat.name st.1.size).1.size+8:=by
   show (Q2o (Q2o (Q2o (Q2o (Q30 st x.nat.name) (wd x.nat.ty)) (wd x.nat.cl)) (wd (x.nat.ttl / 65536))) (wd (x.nat.ttl % 65536))).1.size=_
   simp only [Q8D,Q00,QaF]
  rw [ByteArray.size_append,ByteArray.size_append,Q00,eh]
  show _≤st.1.size+x.nat.name.size+10+x.nat.data.size
  omega
theorem Q9C (l:List RI):∀ (st:St),(∀ x,x∈l→Q2l x)→((l.map RI.nat).foldl Q08 st).1.size≤st.1.size+Q5K l:=by
 induction l with
 | nil=>intro st _; exact Nat.le_refl _
 | cons x l ih =>
  intro st h
  have h1:=ih (Q08 st x.nat) (fun y hy=>h y (List.mem_cons_of_mem _ hy))
  have h2:=Qjj st (h x (by simp))
  have h3:=QgD l (0+x.name.size+10+x.data.size)
  have h4:Q5K (x :: l)=l.foldl (fun n x=>n+x.name.size+10+x.data.size) (0+x.name.size+10+x.data.size):=rfl
  show ((l.map RI.nat).foldl Q08 (Q08 st x.nat)).1.size≤_
  omega
theorem Qes (l:List QI):∀ (st:St) (k:Nat),st.1.size≤k→(∀ x,x∈l→Q2J x)→((l.map QI.nat).foldl Q0J st).1.size≤l.foldl (fun n x=>n+x.name.size+4) k:=by
 induction l with
 | nil=>intro st k h _; exact h
 | cons x l ih =>
  intro st k hk h
  have h2:=Qji st (h x (by simp))
  exact ih (Q0J st x.nat) (k+x.name.size+4) (by omega) (fun y hy=>h y (List.mem_cons_of_mem _ hy))
theorem Qgd (m:MI) (hm:Q1A m):(Q3m m.nat).1.size≤whl m:=by
 obtain ⟨m1,m2,mq,ma,mu,mx⟩:=hm
 have h1:=Qes m.q (Q3G m.nat) 12 (by show (wd _++wd _++wd _++wd _++wd _++wd _).size≤12; simp only [ByteArray.size_append,Q00]; omega) (Q43 mq)
 have h2:=Q9C m.a ((m.q.map QI.nat).foldl Q0J (Q3G m.nat)) (Q1L ma)
 have h3:=Q9C m.u ((m.a.map RI.nat).foldl Q08 ((m.q.map QI.nat).foldl Q0J (Q3G m.nat))) (Q1L mu)
 have h4:=Q9C m.x ((m.u.map RI.nat).foldl Q08 ((m.a.map RI.nat).foldl Q08 ((m.q.map QI.nat).foldl Q0J (Q3G m.nat)))) (Q1L mx)
 show ((m.x.map RI.nat).foldl Q08 ((m.u.map RI.nat).foldl Q08 ((m.a.map RI.nat).foldl Q08 ((m.q.map QI.nat).foldl Q0J (Q3G m.nat))))).1.size≤Qfl m.q+Q5K m.a+Q5K m.u+Q5K m.x
 unfold Qfl
 omega
end Go.Proofs.YtdhobdmhnocbgabGreatDoor
namespace Go.Proofs.YtdhobdmhnocbgabGreatDoor
open Go.RowKit Zr
def QmS (m:MI):Prop:=m.q.length≤65535∧m.a.length≤65535∧m.u.length≤65535∧m.x.length≤65535
theorem MsgAt.sizes {m:MI} (h:Q1A m):(∀ i (h:i < m.q.length),m.q[i].name.size≤255)∧(∀ l,l=m.a∨l=m.u∨l=m.x→∀ i (h:i < l.length),l[i].name.size≤255∧l[i].data.size≤65535):=by
 obtain ⟨_,_,mq,ma,mu,mx⟩:=h
 refine ⟨fun i hi=>?_,?_⟩
 ·exact (Q6C (mq.2 i hi)).1
 ·rintro l (rfl | rfl | rfl) i hi
  ·have:=Q3j (ma.2 i hi).1; exact ⟨this.1,this.2.1⟩
  ·have:=Q3j (mu.2 i hi).1; exact ⟨this.1,this.2.1⟩
  ·have:=Q3j (mx.2 i hi).1; exact ⟨this.1,this.2.1⟩
end Go.Proofs.YtdhobdmhnocbgabGreatDoor
