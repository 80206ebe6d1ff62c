import Derived.Test.YtdhobdmhnocbgabGreatDoorRows
import Derived.Test.YtdhobdmhnocbgabGreatDoorSLawK
import Derived.ProofKit
import Derived.Deep.Slices
import Derived.SizedLaws
import Derived.Test.YtdhobdmhnocbgabGreatDoorSOpnE
import Derived.Test.YtdhobdmhnocbgabGreatDoorSOpnC
import Derived.Test.YtdhobdmhnocbgabGreatDoorSAlL
namespace Go.Proofs.YtdhobdmhnocbgabGreatDoor
open Go.ChangeShapes Go.WideShapes Go.ChangeAt Go.RowKit Go.Deep Zr
set_option maxRecDepth 10000
instance:Inhabited QI:=⟨⟨⟨#[]⟩,0,0⟩⟩
instance:Inhabited RI:=⟨⟨⟨#[]⟩,0,0,0,⟨#[]⟩⟩⟩
theorem Qfs {w:World} {a:Addr} {v:Value} (h:w.cell? a=some v):a.block < w.heap.size:=by
 rcases Nat.lt_or_ge a.block w.heap.size with hb | hb
 ·exact hb
 ·simp [World.cell?,hb] at h
theorem QhG (b o k:Nat):(Addr.mk b o none).add k=⟨b,o+k,none⟩:=by
 unfold Addr.add
 split
 ·next h=>subst h; rfl
 ·rfl
theorem Q47 {H:Type} {P:Program} {e:TypeId} {d:DataW H} {n:Nat}:∀ {l:List (DataW H)},d∈l→n∈d.weights P e→n∈DataW.weightsAll P e l
 | [],h,_=>by simp at h
 | x :: l,h,hn=>by
  simp only [DataW.weightsAll,List.mem_append]
  rcases List.mem_cons.1 h with rfl | h
  ·exact .inl hn
  ·exact .inr (Q47 h hn)
theorem Q6l {H:Type} {P:Program} {t:TypeId} (s:ByteArray):s.size∈(DataW.lit (.string s.data.toList):DataW H).weights P t:=by
 rw [DataW.weights]
 simp
theorem QhT:Tryz.prog.cellsOf 91=3:=by kernel_rfl
theorem QhU:Tryz.prog.cellsOf 61=5:=by kernel_rfl
theorem Qei:Tryz.prog.cellsOf 3=1:=by kernel_rfl
theorem QhV:Tryz.prog.cellsOf 9=1:=by kernel_rfl
theorem QjW:Tryz.prog.cellsOf 30=1:=by kernel_rfl
theorem QjX:Tryz.prog.cellsOf 27=1:=by kernel_rfl
theorem Qlh:Tryz.prog.bytesOf 91=32:=by kernel_rfl
theorem Qli:Tryz.prog.bytesOf 61=56:=by kernel_rfl
section
variable {H:Type} {enc:TypeId × Value→H} {W:World}
theorem QlC {fuel:Nat} {cs:List Value} {x:DataW H × List MemPlace} (h:DataW.trod enc Tryz.prog W 0 (fun _=>true) true fuel 91 cs=some x) :
  ∃ q:QI,cs=[.string q.name,.int .i64 q.ty,.int .i64 q.cl]∧q.name.size∈x.1.weights Tryz.prog 91:=by
 obtain ⟨xs,n,_,rfl,hl,hxl,hf⟩:=DataW.trod_struct Tryz.underlying91 h
 rw [QhT] at hl
 obtain ⟨c0,c1,c2,rfl⟩:∃ c0 c1 c2,cs=[c0,c1,c2]:=by
  match cs,hl with
  | [c0,c1,c2],_=>exact ⟨c0,c1,c2,rfl⟩
 obtain ⟨y0,y1,y2,rfl⟩:∃ y0 y1 y2,xs=[y0,y1,y2]:=by
  match xs,hxl with
  | [y0,y1,y2],_=>exact ⟨y0,y1,y2,rfl⟩
 have g0:DataW.trod enc Tryz.prog W 0 (fun _=>true) true n 9 (([c0,c1,c2].drop 0).take (Tryz.prog.cellsOf 9))=some y0:=hf 0 _ rfl
 have g1:DataW.trod enc Tryz.prog W 0 (fun _=>true) true n 3 (([c0,c1,c2].drop 1).take (Tryz.prog.cellsOf 3))=some y1:=hf 1 _ rfl
 have g2:DataW.trod enc Tryz.prog W 0 (fun _=>true) true n 3 (([c0,c1,c2].drop 2).take (Tryz.prog.cellsOf 3))=some y2:=hf 2 _ rfl
 simp only [Qei,QhV,List.drop,List.take] at g0 g1 g2
 obtain ⟨s,e0,rfl,_⟩:=DataW.trod_string Tryz.underlying9 g0
 obtain ⟨t,e1,rfl,_⟩:=DataW.trod_int Tryz.underlying3 g1
 obtain ⟨u,e2,rfl,_⟩:=DataW.trod_int Tryz.underlying3 g2
 simp only [List.cons.injEq,and_true] at e0 e1 e2
 subst e0 e1 e2
 refine ⟨⟨s,t,u⟩,rfl,?_⟩
 rw [DataW.weights,Tryz.underlying91]
 exact DataW.weights_mem_each (j:=0) (t:=9) (d:=.lit (.string s.data.toList)) rfl rfl _ (Q6l s)
theorem QlD {fuel:Nat} {cs:List Value} {x:DataW H × List MemPlace} (h:DataW.trod enc Tryz.prog W 0 (fun _=>true) true fuel 61 cs=some x) :
  ∃ q:RI,cs=[.string q.name,.int .i64 q.ty,.int .i64 q.cl,.int .i64 q.ttl,.string q.data]∧q.name.size∈x.1.weights Tryz.prog 61∧q.data.size∈x.1.weights Tryz.prog 61:=by
 obtain ⟨xs,n,_,rfl,hl,hxl,hf⟩:=DataW.trod_struct Tryz.underlying61 h
 rw [QhU] at hl
 obtain ⟨c0,c1,c2,c3,c4,rfl⟩:∃ c0 c1 c2 c3 c4,cs=[c0,c1,c2,c3,c4]:=by
  match cs,hl with
  | [c0,c1,c2,c3,c4],_=>exact ⟨c0,c1,c2,c3,c4,rfl⟩
 obtain ⟨y0,y1,y2,y3,y4,rfl⟩:∃ y0 y1 y2 y3 y4,xs=[y0,y1,y2,y3,y4]:=by
  match xs,hxl with
  | [y0,y1,y2,y3,y4],_=>exact ⟨y0,y1,y2,y3,y4,rfl⟩
 have g0:DataW.trod enc Tryz.prog W 0 (fun _=>true) true n 9 (([c0,c1,c2,c3,c4].drop 0).take (Tryz.prog.cellsOf 9))=some y0:=hf 0 _ rfl
 have g1:DataW.trod enc Tryz.prog W 0 (fun _=>true) true n 3 (([c0,c1,c2,c3,c4].drop 1).take (Tryz.prog.cellsOf 3))=some y1:=hf 1 _ rfl
 have g2:DataW.trod enc Tryz.prog W 0 (fun _=>true) true n 3 (([c0,c1,c2,c3,c4].drop 2).take (Tryz.prog.cellsOf 3))=some y2:=hf 2 _ rfl
 have g3:DataW.trod enc Tryz.prog W 0 (fun _=>true) true n 3 (([c0,c1,c2,c3,c4].drop 3).take (Tryz.prog.cellsOf 3))=some y3:=hf 3 _ rfl
 have g4:DataW.trod enc Tryz.prog W 0 (fun _=>true) true n 9 (([c0,c1,c2,c3,c4].drop 4).take (Tryz.prog.cellsOf 9))=some y4:=hf 4 _ rfl
 simp only [Qei,QhV,List.drop,List.take] at g0 g1 g2 g3 g4
 obtain ⟨s,e0,rfl,_⟩:=DataW.trod_string Tryz.underlying9 g0
 obtain ⟨t,e1,rfl,_⟩:=DataW.trod_int Tryz.underlying3 g1
 obtain ⟨u,e2,rfl,_⟩:=DataW.trod_int Tryz.underlying3 g2
 obtain ⟨v,e3,rfl,_⟩:=DataW.trod_int Tryz.underlying3 g3
 obtain ⟨z,e4,rfl,_⟩:=DataW.trod_string Tryz.underlying9 g4
 simp only [List.cons.injEq,and_true] at e0 e1 e2 e3 e4
 subst e0 e1 e2 e3 e4
 refine ⟨⟨s,t,u,v,z⟩,rfl,?_⟩
 rw [DataW.weights,Tryz.underlying61]
 exact ⟨DataW.weights_mem_each (j:=0) (t:=9) (d:=.lit (.string s.data.toList)) rfl rfl _ (Q6l s),DataW.weights_mem_each (j:=4) (t:=9) (d:=.lit (.string z.data.toList)) rfl rfl _ (Q6l z)⟩
theorem Qkv {fuel:Nat} {v:Value} {x:DataW H × List MemPlace} (h:DataW.trod enc Tryz.prog W 0 (fun _=>true) true fuel 30 [v]=some x) :
  ∃ (a:Option Addr) (l:List QI) (c:Nat),v=.slice a l.length c∧l.length≤c∧RowAt W W.heap.size a (qcI l) ∧
   ((x.1.weights Tryz.prog 30).all (·≤reachBytes)=true→Q4m l∧l.length * 32≤140737488351232):=by
 rcases open_slice Tryz.underlying30 h with ⟨h0,_⟩ | ⟨a,len,cap,m,n,D,Pl,hc,_,hl,_,hm,rfl,hel⟩
 ·simp only [List.cons.injEq,and_true] at h0
  exact ⟨none,[],0,h0,Nat.le_refl _,fun hx=>absurd rfl hx,fun _=>⟨fun i hi=>by simp at hi,by decide⟩⟩
 ·simp only [List.cons.injEq,and_true] at hc
  simp only [if_true] at hm
  subst hm
  have hel':∀ i,i < m→∃ q:QI,W.cells? 0 (a.add (i * 3)) 3=some [.string q.name,.int .i64 q.ty,.int .i64 q.cl]∧q.name.size∈(D i).weights Tryz.prog 91:=by
   intro i hi
   obtain ⟨cs',h1,h2⟩:=hel i hi
   rw [QhT] at h1
   obtain ⟨q,rfl,h3⟩:=QlC h2
   exact ⟨q,h1,h3⟩
  obtain ⟨f,hf⟩:=choose_lt hel'
  have hll:((List.range len).map f).length=len:=by simp
  refine ⟨some a,(List.range len).map f,m,by rw [hll]; exact hc,by rw [hll]; exact hl,?_,?_⟩
  ·intro hne
   have hpos:0 < len:=by
    rcases Nat.eq_zero_or_pos len with h0 | h0
    ·subst h0; exact absurd rfl hne
    ·exact h0
   obtain ⟨b,o,spot⟩:=a
   have hspot:spot=none:=by
    obtain ⟨_,_,hcell⟩:=World.cells?_some (hf 0 (by omega)).1
    have:=hcell 0 (by omega)
    simpa [Addr.add] using World.cell?_spot this
   subst hspot
   have Q0W:∀ i,i < len→∀ j,j < 3→W.cell? ⟨b,o+(i * 3+j),none⟩=(qcI ((List.range len).map f))[i * 3+j]?:=by
    intro i hi j hj
    obtain ⟨_,_,hcell⟩:=World.cells?_some (hf i (by omega)).1
    have e:=hcell j hj
    rw [add_add,QhG] at e
    rw [e]
    obtain ⟨q0,q1,q2⟩:=QeQ ((List.range len).map f) i (by simpa using hi)
    match j,hj with
    | 0,_=>simpa using q0.symm
    | 1,_=>simpa using q1.symm
    | 2,_=>simpa using q2.symm
   have hlen:(qcI ((List.range len).map f)).length=len * 3:=by
    rw [Qcb,hll]
   refine ⟨b,o,rfl,?_,fun j u hu=>?_⟩
   ·have e:=Q0W 0 hpos 0 (by omega)
    rw [List.getElem?_eq_getElem (by omega)] at e
    exact Qfs e
   ·have hj:j < len * 3:=by
     rw [←hlen]
     exact (List.getElem?_eq_some_iff.1 hu).1
    have e:=Q0W (j / 3) (by omega) (j % 3) (by omega)
    rw [show j / 3 * 3+j % 3=j by omega,hu] at e
    exact e
  ·intro hw
   have hw':∀ y∈DataW.weights Tryz.prog 30 (.slice ((List.range len).map D) ((List.range (m - len)).map fun j=>D (len+j)):DataW H),y≤reachBytes:=fun y hy=>by
    simpa using List.all_eq_true.1 hw y hy
   simp only [DataW.weights,Tryz.underlying30,Qlh,List.length_map,List.length_range] at hw'
   refine ⟨fun i hi=>?_,?_⟩
   ·have hi':i < len:=by simpa using hi
    have:=hw' _ (List.mem_cons_of_mem _ (List.mem_append_left _ (Q47 (List.mem_map.2 ⟨i,List.mem_range.2 hi',rfl⟩) (hf i (by omega)).2)))
    simp only [List.getElem_map,List.getElem_range]
    unfold reachBytes at this
    omega
   ·have:=hw' _ (List.mem_cons_self ..)
    rw [hll]
    unfold reachBytes at this
    omega
theorem Qc8 {fuel:Nat} {v:Value} {x:DataW H × List MemPlace} (h:DataW.trod enc Tryz.prog W 0 (fun _=>true) true fuel 27 [v]=some x) :
  ∃ (a:Option Addr) (l:List RI) (c:Nat),v=.slice a l.length c∧l.length≤c∧RowAt W W.heap.size a (rcI l) ∧
   ((x.1.weights Tryz.prog 27).all (·≤reachBytes)=true→Q4O l∧l.length * 56≤140737488351232):=by
 rcases open_slice Tryz.underlying27 h with ⟨h0,_⟩ | ⟨a,len,cap,m,n,D,Pl,hc,_,hl,_,hm,rfl,hel⟩
 ·simp only [List.cons.injEq,and_true] at h0
  exact ⟨none,[],0,h0,Nat.le_refl _,fun hx=>absurd rfl hx,fun _=>⟨fun i hi=>by simp at hi,by decide⟩⟩
 ·simp only [List.cons.injEq,and_true] at hc
  simp only [if_true] at hm
  subst hm
  have hel':∀ i,i < m→∃ q:RI,W.cells? 0 (a.add (i * 5)) 5=some [.string q.name,.int .i64 q.ty,.int .i64 q.cl,.int .i64 q.ttl,.string q.data]∧q.name.size∈(D i).weights Tryz.prog 61∧q.data.size∈(D i).weights Tryz.prog 61:=by
   intro i hi
   obtain ⟨cs',h1,h2⟩:=hel i hi
   rw [QhU] at h1
   obtain ⟨q,rfl,h3⟩:=QlD h2
   exact ⟨q,h1,h3⟩
  obtain ⟨f,hf⟩:=choose_lt hel'
  have hll:((List.range len).map f).length=len:=by simp
  refine ⟨some a,(List.range len).map f,m,by rw [hll]; exact hc,by rw [hll]; exact hl,?_,?_⟩
  ·intro hne
   have hpos:0 < len:=by
    rcases Nat.eq_zero_or_pos len with h0 | h0
    ·subst h0; exact absurd rfl hne
    ·exact h0
   obtain ⟨b,o,spot⟩:=a
   have hspot:spot=none:=by
    obtain ⟨_,_,hcell⟩:=World.cells?_some (hf 0 (by omega)).1
    have:=hcell 0 (by omega)
    simpa [Addr.add] using World.cell?_spot this
   subst hspot
   have Q0W:∀ i,i < len→∀ j,j < 5→W.cell? ⟨b,o+(i * 5+j),none⟩=(rcI ((List.range len).map f))[i * 5+j]?:=by
    intro i hi j hj
    obtain ⟨_,_,hcell⟩:=World.cells?_some (hf i (by omega)).1
    have e:=hcell j hj
    rw [add_add,QhG] at e
    rw [e]
    obtain ⟨q0,q1,q2,q3,q4⟩:=QeT ((List.range len).map f) i (by simpa using hi)
    match j,hj with
    | 0,_=>simpa using q0.symm
    | 1,_=>simpa using q1.symm
    | 2,_=>simpa using q2.symm
    | 3,_=>simpa using q3.symm
    | 4,_=>simpa using q4.symm
   have hlen:(rcI ((List.range len).map f)).length=len * 5:=by
    rw [Q7S,hll]
   refine ⟨b,o,rfl,?_,fun j u hu=>?_⟩
   ·have e:=Q0W 0 hpos 0 (by omega)
    rw [List.getElem?_eq_getElem (by omega)] at e
    exact Qfs e
   ·have hj:j < len * 5:=by
     rw [←hlen]
     exact (List.getElem?_eq_some_iff.1 hu).1
    have e:=Q0W (j / 5) (by omega) (j % 5) (by omega)
    rw [show j / 5 * 5+j % 5=j by omega,hu] at e
    exact e
  ·intro hw
   have hw':∀ y∈DataW.weights Tryz.prog 27 (.slice ((List.range len).map D) ((List.range (m - len)).map fun j=>D (len+j)):DataW H),y≤reachBytes:=fun y hy=>by
    simpa using List.all_eq_true.1 hw y hy
   simp only [DataW.weights,Tryz.underlying27,Qli,List.length_map,List.length_range] at hw'
   refine ⟨fun i hi=>?_,?_⟩
   ·have hi':i < len:=by simpa using hi
    have h1:=hw' _ (List.mem_cons_of_mem _ (List.mem_append_left _ (Q47 (List.mem_map.2 ⟨i,List.mem_range.2 hi',rfl⟩) (hf i (by omega)).2.1)))
    have h2:=hw' _ (List.mem_cons_of_mem _ (List.mem_append_left _ (Q47 (List.mem_map.2 ⟨i,List.mem_range.2 hi',rfl⟩) (hf i (by omega)).2.2)))
    simp only [List.getElem_map,List.getElem_range]
    unfold reachBytes at h1 h2
    omega
   ·have:=hw' _ (List.mem_cons_self ..)
    rw [hll]
    unfold reachBytes at this
    omega
theorem QiQ {fuel:Nat} {cs:List Value} {x:DataW H × List MemPlace} (h:DataW.trod enc Tryz.prog W 0 (fun _=>true) true fuel 32 cs=some x)
  (hw:(x.1.weights Tryz.prog 32).all (·≤reachBytes)=true):∃ m:MI,MsgAt W W.heap.size (.agg cs.toArray) m∧Qgg m:=by
 obtain ⟨xs,n,_,rfl,hl,hxl,hf⟩:=DataW.trod_struct Tryz.underlying32 h
 rw [show Tryz.prog.cellsOf 32=6 by kernel_rfl] at hl
 obtain ⟨c0,c1,c2,c3,c4,c5,rfl⟩:∃ c0 c1 c2 c3 c4 c5,cs=[c0,c1,c2,c3,c4,c5]:=by
  match cs,hl with
  | [c0,c1,c2,c3,c4,c5],_=>exact ⟨c0,c1,c2,c3,c4,c5,rfl⟩
 obtain ⟨y0,y1,y2,y3,y4,y5,rfl⟩:∃ y0 y1 y2 y3 y4 y5,xs=[y0,y1,y2,y3,y4,y5]:=by
  match xs,hxl with
  | [y0,y1,y2,y3,y4,y5],_=>exact ⟨y0,y1,y2,y3,y4,y5,rfl⟩
 have g0:DataW.trod enc Tryz.prog W 0 (fun _=>true) true n 3 (([c0,c1,c2,c3,c4,c5].drop 0).take (Tryz.prog.cellsOf 3))=some y0:=hf 0 _ rfl
 have g1:DataW.trod enc Tryz.prog W 0 (fun _=>true) true n 3 (([c0,c1,c2,c3,c4,c5].drop 1).take (Tryz.prog.cellsOf 3))=some y1:=hf 1 _ rfl
 have g2:DataW.trod enc Tryz.prog W 0 (fun _=>true) true n 30 (([c0,c1,c2,c3,c4,c5].drop 2).take (Tryz.prog.cellsOf 30))=some y2:=hf 2 _ rfl
 have g3:DataW.trod enc Tryz.prog W 0 (fun _=>true) true n 27 (([c0,c1,c2,c3,c4,c5].drop 3).take (Tryz.prog.cellsOf 27))=some y3:=hf 3 _ rfl
 have g4:DataW.trod enc Tryz.prog W 0 (fun _=>true) true n 27 (([c0,c1,c2,c3,c4,c5].drop 4).take (Tryz.prog.cellsOf 27))=some y4:=hf 4 _ rfl
 have g5:DataW.trod enc Tryz.prog W 0 (fun _=>true) true n 27 (([c0,c1,c2,c3,c4,c5].drop 5).take (Tryz.prog.cellsOf 27))=some y5:=hf 5 _ rfl
 simp only [Qei,QjW,QjX,List.drop,List.take] at g0 g1 g2 g3 g4 g5
 obtain ⟨id,e0,rfl,_⟩:=DataW.trod_int Tryz.underlying3 g0
 obtain ⟨fl,e1,rfl,_⟩:=DataW.trod_int Tryz.underlying3 g1
 simp only [List.cons.injEq,and_true] at e0 e1
 subst e0 e1
 obtain ⟨a1,q,k1,rfl,n1,r1,z1⟩:=Qkv g2
 obtain ⟨a2,a,k2,rfl,n2,r2,z2⟩:=Qc8 g3
 obtain ⟨a3,u,k3,rfl,n3,r3,z3⟩:=Qc8 g4
 obtain ⟨a4,xx,k4,rfl,n4,r4,z4⟩:=Qc8 g5
 simp only [DataW.weights,Tryz.underlying32,List.map_cons,List.map_nil,DataW.weightsEach,List.nil_append,List.append_nil,List.all_append,Bool.and_eq_true] at hw
 obtain ⟨w1,w2,w3,w4⟩:=hw
 obtain ⟨z1,l1⟩:=z1 w1
 obtain ⟨z2,l2⟩:=z2 w2
 obtain ⟨z3,l3⟩:=z3 w3
 obtain ⟨z4,l4⟩:=z4 w4
 exact ⟨⟨id,fl,q,a,u,xx⟩,⟨a1,k1,a2,k2,a3,k3,a4,k4,rfl,r1,r2,r3,r4,z1,z2,z3,z4,n1,n2,n3,n4⟩,l1,l2,l3,l4⟩
end
end Go.Proofs.YtdhobdmhnocbgabGreatDoor
namespace Go.Proofs.YtdhobdmhnocbgabGreatDoor
open Go.ChangeShapes Go.WideShapes Go.ChangeAt Go.RowKit Go.Deep Zr
set_option maxRecDepth 10000
theorem QhY:Tryz.prog.cellsOf 37=12:=by kernel_rfl
theorem QjV:Tryz.prog.cellsOf 32=6:=by kernel_rfl
theorem QjT:Tryz.prog.cellsOf 33=1:=by kernel_rfl
theorem QjZ:Tryz.prog.cellsOf 34=1:=by kernel_rfl
theorem QjS:Tryz.prog.cellsOf 35=1:=by kernel_rfl
instance:Inhabited Sx:=⟨⟨0,⟨#[]⟩,⟨0,0,[],[],[],[]⟩,none,0,none,0,none,0,none,0,[],none,0,[],none,0,[],none,0,false⟩⟩
section
variable {H:Type} {enc:TypeId × Value→H} {W:World}
theorem QlE {fuel:Nat} {cs:List Value} {x:DataW H × List MemPlace} (h:DataW.trod enc Tryz.prog W 0 (fun _=>true) true fuel 37 cs=some x) (hb:Rows.uptoBulk x.1≤1048576) (hw:∀ y∈x.1.weights Tryz.prog 37,y≤reachBytes) :
  ∃ q:Sx,cs=q.cells∧StepIn q W∧q.sc.length+szC q.sc+1≤Rows.uptoBulk x.1:=by
 obtain ⟨xs,n,_,rfl,hl,hxl,hf⟩:=DataW.trod_struct Tryz.underlying37 h
 rw [QhY] at hl
 obtain ⟨c0,c1,c2,c3,c4,c5,c6,c7,c8,c9,c10,c11,rfl⟩:∃ c0 c1 c2 c3 c4 c5 c6 c7 c8 c9 c10 c11,cs=[c0,c1,c2,c3,c4,c5,c6,c7,c8,c9,c10,c11]:=by
  match cs,hl with
  | [c0,c1,c2,c3,c4,c5,c6,c7,c8,c9,c10,c11],_=>exact ⟨c0,c1,c2,c3,c4,c5,c6,c7,c8,c9,c10,c11,rfl⟩
 obtain ⟨y0,y1,y2,y3,y4,y5,y6,rfl⟩:∃ y0 y1 y2 y3 y4 y5 y6,xs=[y0,y1,y2,y3,y4,y5,y6]:=by
  match xs,hxl with
  | [y0,y1,y2,y3,y4,y5,y6],_=>exact ⟨y0,y1,y2,y3,y4,y5,y6,rfl⟩
 have g0:DataW.trod enc Tryz.prog W 0 (fun _=>true) true n 3 (([c0,c1,c2,c3,c4,c5,c6,c7,c8,c9,c10,c11].drop 0).take (Tryz.prog.cellsOf 3))=some y0:=hf 0 _ rfl
 have g1:DataW.trod enc Tryz.prog W 0 (fun _=>true) true n 9 (([c0,c1,c2,c3,c4,c5,c6,c7,c8,c9,c10,c11].drop 1).take (Tryz.prog.cellsOf 9))=some y1:=hf 1 _ rfl
 have g2:DataW.trod enc Tryz.prog W 0 (fun _=>true) true n 32 (([c0,c1,c2,c3,c4,c5,c6,c7,c8,c9,c10,c11].drop 2).take (Tryz.prog.cellsOf 32))=some y2:=hf 2 _ rfl
 have g3:DataW.trod enc Tryz.prog W 0 (fun _=>true) true n 33 (([c0,c1,c2,c3,c4,c5,c6,c7,c8,c9,c10,c11].drop 8).take (Tryz.prog.cellsOf 33))=some y3:=hf 3 _ rfl
 have g4:DataW.trod enc Tryz.prog W 0 (fun _=>true) true n 34 (([c0,c1,c2,c3,c4,c5,c6,c7,c8,c9,c10,c11].drop 9).take (Tryz.prog.cellsOf 34))=some y4:=hf 4 _ rfl
 have g5:DataW.trod enc Tryz.prog W 0 (fun _=>true) true n 35 (([c0,c1,c2,c3,c4,c5,c6,c7,c8,c9,c10,c11].drop 10).take (Tryz.prog.cellsOf 35))=some y5:=hf 5 _ rfl
 have g6:DataW.trod enc Tryz.prog W 0 (fun _=>true) true n 4 (([c0,c1,c2,c3,c4,c5,c6,c7,c8,c9,c10,c11].drop 11).take (Tryz.prog.cellsOf 4))=some y6:=hf 6 _ rfl
 simp only [Qfu,Qfv,Qft,QjV,QjT,QjZ,QjS,List.drop,List.take] at g0 g1 g2 g3 g4 g5 g6
 simp only [List.map_cons,List.map_nil,Rows.uptoBulk,Rows.uptoBulkAll] at hb ⊢
 simp only [List.map_cons,List.map_nil,DataW.weights,Tryz.underlying37] at hw
 obtain ⟨v0,e0,rfl,w0⟩:=DataW.trod_int Tryz.underlying3 g0
 obtain ⟨v1,e1,rfl,_⟩:=DataW.trod_string Tryz.underlying9 g1
 obtain ⟨v6,e6,rfl⟩:=DataW.trod_bool Tryz.underlying4 g6
 simp only [List.cons.injEq,and_true] at e0 e1 e6
 subst e0 e1 e6
 obtain ⟨mi,hmsg,hlens⟩:=QiQ g2 (List.all_eq_true.2 fun y hy=>by
  have:=hw y (DataW.weights_mem_each (j:=2) (t:=32) (d:=y2.1) rfl rfl y hy)
  simpa using this)
 obtain ⟨aL,l,cL,rfl,_,rL,lL,zL⟩:=Qku g3 (by omega)
 obtain ⟨aT,t,cT,rfl,_,rT,bT⟩:=Qkw g4
 obtain ⟨aC,sc,cC,rfl,_,rC,bC,iC⟩:=Qkt g5
 have hm:=hmsg
 obtain ⟨a1,d1,a2,d2,a3,d3,a4,d4,em,_⟩:=hm
 injection em with em
 simp only [List.toArray] at em
 have hT1:=Qbb t
 have hT2:=Q9u t
 have b1:=Q9v (H:=H) v1
 simp only [Rows.uptoBulk] at b1 hb ⊢
 have em':[c2,c3,c4,c5,c6,c7]=[.int .i64 mi.id,.int .i64 mi.flags,.slice a1 mi.q.length d1,.slice a2 mi.a.length d2,.slice a3 mi.u.length d3,.slice a4 mi.x.length d4]:=by simpa using congrArg Array.toList em
 injection em' with f2 em'
 injection em' with f3 em'
 injection em' with f4 em'
 injection em' with f5 em'
 injection em' with f6 em'
 injection em' with f7 em'
 subst f2 f3 f4 f5 f6 f7
 refine ⟨⟨v0,v1,mi,a1,d1,a2,d2,a3,d3,a4,d4,l,aL,cL,t,aT,cT,sc,aC,cC,v6⟩,rfl,⟨hmsg,hlens,rL,lL,(fun i hi=>by have:=zL i hi; omega:Q2d l),rT,by show t.length≤_; omega,by show Q2r t≤_; omega,rC,by show sc.length≤_; omega,by show szC sc≤_; omega,iC,by show v1.size≤_; omega⟩,by show sc.length+szC sc+1≤_; omega⟩
theorem QhN (D:Nat→DataW H) (f:Nat→Sx):∀ n,(∀ i,i < n→(f i).sc.length+szC (f i).sc+1≤Rows.uptoBulk (D i))→n+Q4D ((List.range n).map f)+szS ((List.range n).map f)≤Rows.uptoBulkAll ((List.range n).map D)
 | 0,_=>by simp [Q4D,szS]
 | n+1,h=>by
  have ih:=QhN D f n fun i hi=>h i (by omega)
  have hn:=h n (by omega)
  rw [List.range_succ,List.map_append,List.map_append,Q7x,Q4H,Q5F]
  simp only [List.map_cons,List.map_nil,Rows.uptoBulkAll,Q4D,szS]
  omega
theorem QjR (D:Nat→DataW H) (n i:Nat) (h:i < n):Rows.uptoBulk (D i)≤Rows.uptoBulkAll ((List.range n).map D):=by
 induction n with
 | zero=>omega
 | succ n ih =>
  rw [List.range_succ,List.map_append,Q7x]
  simp only [List.map_cons,List.map_nil,Rows.uptoBulkAll]
  rcases Nat.lt_or_ge i n with q | q
  ·have:=ih q; omega
  ·have:i=n:=by omega
   subst this
   omega
theorem Qkx {fuel:Nat} {v:Value} {x:DataW H × List MemPlace} (h:DataW.trod enc Tryz.prog W 0 (fun _=>true) true fuel 22 [v]=some x) (hb:Rows.uptoBulk x.1≤1048576) (hw:∀ y∈x.1.weights Tryz.prog 22,y≤reachBytes) :
  ∃ (a:Option Addr) (l:List Sx) (c:Nat),v=.slice a l.length c∧RowAt W W.heap.size a (sxC l)∧l.length+Q4D l+szS l≤1048576∧∀ i (h:i < l.length),StepIn l[i] W:=by
 rcases open_slice Tryz.underlying22 h with ⟨h0,_⟩ | ⟨a,len,cap,m,n,D,Pl,hc,_,hl,_,hm,rfl,hel⟩
 ·simp only [List.cons.injEq,and_true] at h0
  exact ⟨none,[],0,h0,fun hx=>absurd rfl hx,Nat.zero_le _,fun i hi=>by simp at hi⟩
 ·simp only [List.cons.injEq,and_true] at hc
  simp only [if_true] at hm
  subst hm
  simp only [Rows.uptoBulk] at hb
  simp only [DataW.weights,Tryz.underlying22] at hw
  have hel':∀ i,i < len→∃ q:Sx,W.cells? 0 (a.add (i * 12)) 12=some q.cells∧StepIn q W∧q.sc.length+szC q.sc+1≤Rows.uptoBulk (D i):=by
   intro i hi
   obtain ⟨cs',h1,h2⟩:=hel i (by omega)
   rw [QhY] at h1
   have hbi:=QjR D len i hi
   obtain ⟨q,rfl,h3⟩:=QlE h2 (by simp only; omega) (fun y hy=>hw y (List.mem_cons_of_mem _ (List.mem_append_left _ (Q47 (List.mem_map.2 ⟨i,List.mem_range.2 hi,rfl⟩) hy))))
   exact ⟨q,h1,h3⟩
  obtain ⟨f,hf⟩:=choose_lt hel'
  have hll:((List.range len).map f).length=len:=by simp
  refine ⟨some a,(List.range len).map f,m,by rw [hll]; exact hc,?_,?_,fun i hi=>?_⟩
  ·intro hne
   have hpos:0 < len:=by
    rcases Nat.eq_zero_or_pos len with h0 | h0
    ·subst h0; exact absurd rfl hne
    ·exact h0
   obtain ⟨b,o,spot⟩:=a
   have hspot:spot=none:=by
    obtain ⟨_,_,hcell⟩:=World.cells?_some (hf 0 (by omega)).1
    have:=hcell 0 (by decide)
    simpa [Addr.add] using World.cell?_spot this
   subst hspot
   have Q0W:∀ i,i < len→∀ j,j < 12→W.cell? ⟨b,o+(i * 12+j),none⟩=(sxC ((List.range len).map f))[i * 12+j]?:=by
    intro i hi j hj
    obtain ⟨_,_,hcell⟩:=World.cells?_some (hf i hi).1
    have e:=hcell j hj
    rw [add_add,Q7s] at e
    rw [e]
    have hq:=Q85 Sx.cells 12 (fun _=>rfl) ((List.range len).map f) i (by simpa using hi) j hj
    show _=(List.flatMap Sx.cells ((List.range len).map f))[i * 12+j]?
    rw [hq]
    simp
   have hlen:(sxC ((List.range len).map f)).length=len * 12:=by
    rw [Qg7,hll]
   refine ⟨b,o,rfl,?_,fun j u hu=>?_⟩
   ·have e:=Q0W 0 hpos 0 (by omega)
    rw [List.getElem?_eq_getElem (by omega)] at e
    exact QbX e
   ·have hj:j < len * 12:=by
     rw [←hlen]
     exact (List.getElem?_eq_some_iff.1 hu).1
    have e:=Q0W (j / 12) (by omega) (j % 12) (by omega)
    rw [show j / 12 * 12+j % 12=j by omega,hu] at e
    exact e
  ·rw [hll]
   have:=QhN D f len fun i hi=>(hf i hi).2.2
   omega
  ·have hi':i < len:=by simpa using hi
   simp only [List.getElem_map,List.getElem_range]
   exact (hf i hi').2.1
end
end Go.Proofs.YtdhobdmhnocbgabGreatDoor
