import Derived.Test.YtdhobdmhnocbgabGreatDoorSMwO
import Derived.Test.YtdhobdmhnocbgabGreatDoorSKeepA
namespace Go.Proofs.YtdhobdmhnocbgabGreatDoor
open Go.RowKit Zr
def Q5R (c:Nat):Nat:=if 65≤c∧c≤90 then c+32 else c
def Q2Z (s:ByteArray):Nat→ByteArray
 | 0=>⟨#[]⟩
 | j+1=>Q2Z s j++one (Q5R (bt s j))
def Q1h (s:ByteArray):ByteArray:=Q2Z s s.size
theorem Qkm {c:Nat} (h:c < 256):Q5R c < 256:=by unfold Q5R; split <;> omega
theorem Q4i (s:ByteArray):∀ j,(Q2Z s j).size=j
 | 0=>rfl
 | j+1=>by unfold Q2Z; rw [ByteArray.size_append,Q4i s j]; rfl
theorem Q6h (s:ByteArray):(Q1h s).size=s.size:=Q4i s s.size
def Q06 (n o:ByteArray) (i:Nat):Bool :=
 if _h:i < n.size then (if n.extract i n.size=o then true else Q06 n o (i+1+bt n i)) else false
termination_by n.size - i
structure ST where
 part:Nat
 kind:Int
 l:List RI
def ofP (z:List RI) (n:ByteArray) (t:Int):List RI:=z.filter fun x=>decide (x.name=n∧x.ty=t)
def Q0c (z:List RI) (S:List ST) (p:Nat) (n:ByteArray) (t:Int):List ST:=if ofP z n t=[] then S else S++[⟨p,t,ofP z n t⟩]
def Q0Q (S:List ST) (t:Int):Bool:=S.any fun s=>decide (s.kind=t)
def Q5Y (z:List RI) (n:ByteArray):Bool:=z.any fun x=>Q06 x.name n 0
def Q0f (z:List RI) (n:ByteArray) (S:List ST):Nat→List ST
 | 0=>S
 | i+1=>match z[i]? with
  | none=>Q0f z n S i
  | some x=>if x.name=n∧Q0Q (Q0f z n S i) x.ty=false then Q0c z (Q0f z n S i) 0 n x.ty else Q0f z n S i
def Q7t (z:List RI) (n:ByteArray):ByteArray:=match ofP z n 5 with
 | []=>n
 | x :: _=>x.data
def Q0w (z:List RI) (S:List ST) (n:ByteArray) (t:Int):List ST :=
 if t=255 then Q0f z n S z.length else if t=5 then Q0c z S 0 n 5 else Q0c z (Q0c z S 0 n 5) 0 (Q7t z n) t
def Q1K (S:List ST) (t:Int):Bool:=if t=255 then decide (0 < S.length) else Q0Q S t
def Q2e (node:ByteArray) (x:RI):Bool:=decide (x.name=node∧(x.ty=1∨x.ty=28))
def Q1Q (z:List RI) (node:ByteArray) (i:Nat):Nat:=i+((z.drop i).takeWhile fun x=>!Q2e node x).length
def Q0q (d:ByteArray):ByteArray:=if d.size < 6 then ⟨#[]⟩ else d.extract 6 d.size
def Q0a (z sv:List RI) (S:List ST):Nat→Nat × List ST
 | 0=>(0,S)
 | j+1=>match sv[j]? with
  | none=>Q0a z sv S j
  | some x=>match z[Q1Q z (Q0q x.data) (Q0a z sv S j).1]? with
   | none=>(Q1Q z (Q0q x.data) (Q0a z sv S j).1,(Q0a z sv S j).2)
   | some y=>(Q1Q z (Q0q x.data) (Q0a z sv S j).1,(Q0a z sv S j).2++[⟨2,y.ty,[y]⟩])
def Q0r (S:List ST):List RI:=match S.find? fun s=>decide (s.kind=33) with
 | none=>[]
 | some s=>s.l
def Q60 (z:List RI) (S:List ST):List ST:=(Q0a z (Q0r S) S (Q0r S).length).2
def Qb1 (z:List RI) (S:List ST):List ST:=Q0c z S 1 Qm 6
def Q1z (z:List RI) (n:ByteArray) (t:Int):List ST:=if Q1K (Q0w z [] n t) t then Q0w z [] n t else Qb1 z (Q0w z [] n t)
def Q3B (z:List RI) (n:ByteArray):Nat:=if Q5Y z n then 0 else 3
def Q2m (z:List RI) (n:ByteArray) (t:Int):List ST:=if Q5Y z n then Q60 z (Q1z z n t) else Qb1 z []
structure Rep where
 id:Nat
 fl:Nat
 told:Nat
 q:List QI
 opt:Bool
 sets:List ST
 lim:Nat
def Q0k (S:List ST) (p:Nat):List RI:=(S.filter fun s=>decide (s.part=p)).flatMap ST.l
def Q7O (told:Nat):RI:=⟨⟨#[0]⟩,41,4096,(told / 16 * 16777216:Nat),⟨#[]⟩⟩
def Q0o (x:Rep):List RI:=if x.opt then [Q7O x.told] else []
def Q0P (S:List ST) (c:Nat) (f:Nat):Nat→Nat
 | 0=>f
 | j+1=>match S[j]? with
  | none=>Q0P S c f j
  | some s=>if c≤j∧s.part≠2 then Q0P S c f j ||| 512 else Q0P S c f j
def Q0A (x:Rep) (c:Nat):MI:=⟨x.id,(Q0P x.sets c (x.fl ||| x.told % 16) x.sets.length:Nat),x.q,Q0k (x.sets.take c) 0,Q0k (x.sets.take c) 1,Q0k (x.sets.take c) 2++Q0o x⟩
def Fit (x:Rep) (c:Nat):Prop:=Q1A (Q0A x c)∧(Q3m (Q0A x c).nat).1.size≤65535∧(Q3m (Q0A x c).nat).1.size≤x.lim
def Q3o (x:Rep) (c:Nat):Prop:=c≤x.sets.length∧(c=0∨Fit x c)∧(c=x.sets.length∨¬ Fit x (c+1))
def Q4v (cls:Nat) (stream:Bool):Nat:=if stream then 65535 else if cls < 512 then 512 else if 4096 < cls then 4096 else cls
def Q12 (l:List RI):Option RI:=l.find? fun x=>decide (x.ty=41)
def Q28 (l:List RI):Nat:=match Q12 l with
 | none=>0
 | some x=>x.cl.toNat
def Q2j (l:List RI):Nat:=match Q12 l with
 | none=>0
 | some x=>x.ttl.toNat
def Q1o (flags life:Nat) (q:QI):Nat :=
 if flags &&& 30720≠0 then 4 else if life / 65536 % 256≠0 then 16 else if q.cl≠1∨Q06 (Q1h q.name) Qm 0=false then 5 else 0
noncomputable def Q3A (id fl:Nat) (m:MI) (l:List Ev) (stream:Bool):Rep :=
 match m.q with
 | [q] =>
  if Q1o m.flags.toNat (Q2j m.x) q=0 then
   ⟨id,fl ||| 1024,Q3B (Qg l) (Q1h q.name),[q],(Q12 m.x).isSome,Q2m (Qg l) (Q1h q.name) q.ty,Q4v (Q28 m.x) stream⟩
  else ⟨id,fl,Q1o m.flags.toNat (Q2j m.x) q,[q],(Q12 m.x).isSome,[],Q4v (Q28 m.x) stream⟩
 | _=>⟨id,fl,1,[],(Q12 m.x).isSome,[],Q4v (Q28 m.x) stream⟩
noncomputable def Q5T (l:List Ev) (b:ByteArray) (stream:Bool):Rep :=
 match Q0X b with
 | .error _=>⟨num b 0 2,32768 ||| (num b 2 2 &&& 30976),1,[],false,[],0⟩
 | .ok m=>Q3A (num b 0 2) (32768 ||| (num b 2 2 &&& 30976)) m.int l stream
def QaJ (b:ByteArray):Prop:=b.size < 12∨65535 < b.size∨128≤bt b 2
def Q4P (l:List Ev) (b:ByteArray) (stream:Bool) (s:ByteArray):Prop :=
 (QaJ b∧s=⟨#[]⟩)∨(¬ QaJ b∧∃ c e,Q3o (Q5T l b stream) c∧SerIs (Q0A (Q5T l b stream) c) s e)
theorem Qgq (x:UInt8):byteCells ⟨#[x]⟩=[.int .u8 x.toNat]:=rfl
theorem Q9k (w:World) (x0:Value) (t:TypeId) (B:Nat) (hB:B=w.heap.size):∀ j u,[x0][j]? = some u→(w.alloc (.cells #[x0] t)).cell? ((⟨B,0,none⟩:Addr).add j)=some u:=by
 subst hB
 exact World.news_of_block (cs:=#[x0]) (heap_alloc_new w _)
theorem Q8q (n:Nat) (h:n < 256):byteCells (one n)=[.int .u8 n]:=by
 unfold one
 rw [Qgq,UInt8.toNat_ofNat_of_lt' (by simpa using h)]
set_option maxRecDepth 100000 in
set_option maxHeartbeats 2000000 in
theorem Qg3 (s:ByteArray) (w:World) (hs:s.size≤4294967296) :
  Calls Tryz.prog 164 #[.string s] w fun e w'=>e=.returned (.string (Q1h s))∧Below w.heap.size w w':=by
 obtain ⟨i0,hi,hz0,hz1,hz2⟩:=info_parts Tryz.info5
 have Hi:=Qa hi
 have Hz0:=Qa hz0
 have Hz1:=Qa hz1
 have Hz2:=Qa hz2
 clear hi hz0 hz1 hz2
 obtain ⟨N,hN⟩:∃ N,w.heap.size=N:=⟨_,rfl⟩
 rw [hN]
 go_enter Tryz.func164,Tryz.ntmps164
 go_wp2_with fail
 go_loopg [3,4] (s.size+1) (fun g vb vi w'=>∃ (j:Nat) (ab:Option Addr) (cb:Nat),vi=.int .i64 j∧j≤s.size∧g=s.size+1 - j∧vb=.slice ab j cb∧Hid (w'.ownsRow N 5 1 (.slice ab j cb) j (byteCells (Q2Z s j)))∧Hid (Below N w w')∧N≤w'.heap.size)
 case atStart=>exact ⟨0,none,0,rfl,Nat.zero_le _,rfl,rfl,Qa (World.ownsRow_nil _ _ _ _),Qa (Below.refl _ _),by omega⟩
 case round =>
  obtain ⟨j,ab,cb,rfl,hj,rfl,rfl,HO,HB,hNw⟩:=hrel
  by_cases cj:j < s.size
  ·have hg:=Q10 s j cj
   have hlt:=Q20 s j
   have hT:Q2Z s (j+1)=Q2Z s j++one (Q5R (bt s j)):=rfl
   have HT:=Qa hT
   clear hT
   have hcase:(bt s j < 65∧Q5R (bt s j)=bt s j)∨(90 < bt s j∧Q5R (bt s j)=bt s j)∨(65≤bt s j∧bt s j≤90∧Q5R (bt s j)=bt s j+32):=by
    unfold Q5R
    by_cases c1:bt s j < 65
    ·exact .inl ⟨c1,if_neg (by omega)⟩
    ·by_cases c2:90 < bt s j
     ·exact .inr (.inl ⟨c2,if_neg (by omega)⟩)
     ·exact .inr (.inr ⟨by omega,by omega,if_pos (by omega)⟩)
   generalize bt s j=c at *
   generalize Q2Z s j=B at *
   rcases hcase with ⟨c1,hc⟩ | ⟨c1,hc⟩ | ⟨c1,c2,hc⟩
   all_goals
    rw [hc] at HT
    clear hc
   ·go_wp2_with (at_builtin; refine Qe _ rfl _ _ 128 128 rfl N 5 i0 (.int .u8 0) 1 1 Tryz.underlying128 (Q6 Hi) (Q6 Hz0) (Q6 Hz1) (Q6 Hz2) rfl (.slice ab j cb) j (byteCells B) (by rfl) ((Q6 HO).alloc _) (.slice (some ⟨wr.heap.size,0,none⟩) 1 1) 1 [.int .u8 (c:Nat)] (by rfl) (Src.ofSlice _ Tryz.underlying128 ⟨wr.heap.size,0,none⟩ 1 1 _ rfl (Q9k _ _ _ _ rfl) (fun x hx=>by simp at hx; rcases hx with rfl <;> rfl)) (by unfold maxLen; omega) (by omega) (by simp; omega) ?_; intro a1 e1 w2 hown2 hgrow2 hat2)
    go_roundg (s.size+1 - (j+1))
    case measure=>omega
    case rel =>
     refine ⟨j+1,a1,e1,by go_num,by omega,rfl,rfl,?_,Qa (((Q6 HB).alloc hNw _).trans (Qn ((Q6 HO).alloc _) hgrow2 (by simp; omega))),?_⟩
     ·rw [Q6 HT,Q1R,Q8q _ (by omega)]; exact Qa hown2
     ·have:=hgrow2.size; simp at this; omega
   ·go_wp2_with (at_builtin; refine Qe _ rfl _ _ 128 128 rfl N 5 i0 (.int .u8 0) 1 1 Tryz.underlying128 (Q6 Hi) (Q6 Hz0) (Q6 Hz1) (Q6 Hz2) rfl (.slice ab j cb) j (byteCells B) (by rfl) ((Q6 HO).alloc _) (.slice (some ⟨wr.heap.size,0,none⟩) 1 1) 1 [.int .u8 (c:Nat)] (by rfl) (Src.ofSlice _ Tryz.underlying128 ⟨wr.heap.size,0,none⟩ 1 1 _ rfl (Q9k _ _ _ _ rfl) (fun x hx=>by simp at hx; rcases hx with rfl <;> rfl)) (by unfold maxLen; omega) (by omega) (by simp; omega) ?_; intro a1 e1 w2 hown2 hgrow2 hat2)
    go_roundg (s.size+1 - (j+1))
    case measure=>omega
    case rel =>
     refine ⟨j+1,a1,e1,by go_num,by omega,rfl,rfl,?_,Qa (((Q6 HB).alloc hNw _).trans (Qn ((Q6 HO).alloc _) hgrow2 (by simp; omega))),?_⟩
     ·rw [Q6 HT,Q1R,Q8q _ (by omega)]; exact Qa hown2
     ·have:=hgrow2.size; simp at this; omega
   ·go_wp2_with (at_builtin; refine Qe _ rfl _ _ 128 128 rfl N 5 i0 (.int .u8 0) 1 1 Tryz.underlying128 (Q6 Hi) (Q6 Hz0) (Q6 Hz1) (Q6 Hz2) rfl (.slice ab j cb) j (byteCells B) (by rfl) ((Q6 HO).alloc _) (.slice (some ⟨wr.heap.size,0,none⟩) 1 1) 1 [.int .u8 ((c:Int)+97 - 65)] (by rfl) (Src.ofSlice _ Tryz.underlying128 ⟨wr.heap.size,0,none⟩ 1 1 _ rfl (Q9k _ _ _ _ rfl) (fun x hx=>by simp at hx; rcases hx with rfl <;> rfl)) (by unfold maxLen; omega) (by omega) (by simp; omega) ?_; intro a1 e1 w2 hown2 hgrow2 hat2)
    go_roundg (s.size+1 - (j+1))
    case measure=>omega
    case rel =>
     refine ⟨j+1,a1,e1,by go_num,by omega,rfl,rfl,?_,Qa (((Q6 HB).alloc hNw _).trans (Qn ((Q6 HO).alloc _) hgrow2 (by simp; omega))),?_⟩
     ·have e3:((c:Int)+97 - 65)=((c+32:Nat):Int):=by omega
      rw [e3] at hown2
      rw [Q6 HT,Q1R,Q8q _ (by omega)]; exact Qa hown2
     ·have:=hgrow2.size; simp at this; omega
  ·have ej:j=s.size:=by omega
   subst ej
   have eB:(Q1h s).size=s.size:=Q6h s
   have hP:Q2Z s s.size=Q1h s:=rfl
   have ho:=Q6 HO
   rw [hP,←eB] at ho
   obtain ⟨B,hB⟩:∃ B,Q1h s=B:=⟨_,rfl⟩
   rw [hB] at ho eB
   go_wp2_with fail
   rw [←eB]
   rw [Q1v _ 128 9 5 Tryz.underlying128 Tryz.underlying5 Tryz.underlying9 N _ B ho]
   clear ho
   go_wp2_with fail
   go_ret
   exact ⟨by rw [hB]; rfl,Q6 HB⟩
set_option maxRecDepth 100000 in
set_option maxHeartbeats 2000000 in
theorem QdZ (n o:ByteArray) (w:World) (hs:n.size≤4294967296) :
  Calls Tryz.prog 165 #[.string n,.string o] w fun e w'=>e=.returned (.bool (Q06 n o 0))∧w'=w:=by
 have HU:Hid (∀ i,i < n.size→Q06 n o i=if n.extract i n.size=o then true else Q06 n o (i+1+bt n i)):=fun i hi=>by rw [Q06,dif_pos hi]
 have HE:Hid (∀ i,¬ i < n.size→Q06 n o i=false):=fun i hi=>by rw [Q06,dif_neg hi]
 obtain ⟨res,hres⟩:∃ r,Q06 n o 0=r:=⟨_,rfl⟩
 rw [hres]
 go_enter Tryz.func165,Tryz.ntmps165
 go_wp2_with fail
 go_loop [5] (fun i=>∃ j:Nat,j≤n.size+256∧i=.int .i64 j∧Hid (Q06 n o j=res)) (fun i=>n.size+256 - (intOf i).toNat)
 case atStart=>exact ⟨0,Nat.zero_le _,rfl,Qa hres⟩
 case round =>
  obtain ⟨j,hj,rfl,HW⟩:=hrel
  by_cases cj:j < n.size
  ·have hu:=Q6 HU j cj
   rw [Q6 HW] at hu
   have hg:=Q10 n j cj
   have hlt:=Q20 n j
   by_cases ce:n.extract j n.size=o
   ·rw [if_pos ce] at hu
    have f1:=Q1i ce
    clear ce
    subst hu
    go_wp2_with fail
    go_ret
    exact ⟨rfl,rfl⟩
   ·rw [if_neg ce] at hu
    have f1:=Q1w ce
    have HN:=Qa hu.symm
    clear ce hu hres HW HU HE
    generalize bt n j=c at *
    go_wp2_with fail
    go_round
    case rel=>exact ⟨j+1+c,by omega,by go_num,HN⟩
    case measure=>simp [intOf]; omega
  ·have hu:=Q6 HE j cj
   rw [Q6 HW] at hu
   subst hu
   clear HU HE
   go_wp2_with fail
   go_ret
   exact ⟨rfl,rfl⟩
theorem Tryz.info201:(Tryz.prog.info? 201).map (fun i=>(i.zero,i.size,i.bytes))=some (some (.agg #[.int .i64 0,.int .i64 0,.slice none 0 0]),3,40):=by kernel_rfl
structure AFrame (N:Nat) (w w':World):Prop where
 os:w'.os=w.os
 tape:w'.tape=w.tape
 output:w'.output=w.output
 size:w.heap.size≤w'.heap.size
 low:∀ k,k < N→k < w.heap.size→w'.heap[k]? = w.heap[k]?
 kind:∀ (k:Nat) (cs:Array Value) (t:TypeId) (fr:Nat × Nat),w.heap[k]? = some (Obj.cells cs t fr)→t≠201→t≠199→w'.heap[k]? = some (Obj.cells cs t fr)
theorem AFrame.refl (N:Nat) (w:World):AFrame N w w:=⟨rfl,rfl,rfl,Nat.le_refl _,fun _ _ _=>rfl,fun _ _ _ _ h _ _=>h⟩
theorem AFrame.trans {N:Nat} {a b c:World} (h:AFrame N a b) (k:AFrame N b c):AFrame N a c :=
 ⟨k.os.trans h.os,k.tape.trans h.tape,k.output.trans h.output,Nat.le_trans h.size k.size,fun i h1 h2=>(k.low i h1 (Nat.lt_of_lt_of_le h2 h.size)).trans (h.low i h1 h2),fun i cs t fr h1 h2 h3=>k.kind i cs t fr (h.kind i cs t fr h1 h2 h3) h2 h3⟩
theorem AFrame.below {N:Nat} {w w':World} (h:AFrame N w w') (hN:N≤w.heap.size):Below N w w':=⟨h.os,h.tape,h.output,h.size,fun k hk=>h.low k hk (Nat.lt_of_lt_of_le hk hN)⟩
theorem AFrame.of_below {N:Nat} {w w':World} (h:Below w.heap.size w w'):AFrame N w w' :=
 ⟨h.os,h.tape,h.output,h.size,fun k _ hk=>h.block k hk,fun k _ _ _ hk _ _=>(h.block k (Qb hk)).trans hk⟩
theorem AFrame.of_grown {N g:Nat} {w w':World} (h:w.grownBy w' (some g)) (hg:N≤g) {cs:Array Value} {t:TypeId} {fr:Nat × Nat} (hk:w.heap[g]? = some (.cells cs t fr)) (ht:t=201∨t=199):AFrame N w w' :=
 ⟨h.os,h.tape,h.output,h.size,fun k h1 h2=>h.block k h2 (fun e=>by cases e; omega),fun k cs' t' fr' h1 h2 h3=>(h.block k (Qb h1) (fun e=>by
  cases e
  rw [hk] at h1
  cases h1
  rcases ht with h | h
  ·exact h2 h
  ·exact h3 h)).trans h1⟩
theorem AFrame.of_none {N:Nat} {w w':World} (h:w.grownBy w' none):AFrame N w w' :=
 ⟨h.os,h.tape,h.output,h.size,fun k h1 h2=>h.block k h2 (by simp),fun k _ _ _ h1 _ _=>(h.block k (Qb h1) (by simp)).trans h1⟩
theorem AFrame.of_append {N:Nat} {w w':World} {e:TypeId} {size:Nat} {v:Value} {n:Nat} {xs:List Value} (hown:w.ownsRow N e size v n xs) (hg:w.grownBy w' v.ownBlock) (ht:e=201∨e=199):AFrame N w w':=by
 rcases hown.2 with ⟨rfl,_⟩ | ⟨g,cap,cur,rfl,hbg,hgg,_⟩
 ·exact AFrame.of_none hg
 ·exact AFrame.of_grown hg hbg hgg ht
theorem AFrame.box {N k:Nat} {w a:World} {cs:Array Value} {t:TypeId} {fr:Nat × Nat} (h:AFrame N w a) (hr:w.heap[k]? = some (.cells cs t fr)) (h1:t≠201) (h2:t≠199):a.heap[k]? = some (.cells cs t fr) :=
 h.kind k _ _ _ hr h1 h2
def RecRow (w:World) (a:Option Addr) (l:List RI):Prop :=
 l≠[]→∃ g o cs,a=some ⟨g,o,none⟩∧w.heap[g]? = some (.cells cs 61 (0,0))∧∀ j u,(rcI l)[j]? = some u→cs[o+j]? = some u
theorem RecRow.frame {N:Nat} {w w':World} {a:Option Addr} {l:List RI} (h:RecRow w a l) (hf:AFrame N w w'):RecRow w' a l:=by
 intro hl
 obtain ⟨g,o,cs,h1,h2,h3⟩:=h hl
 exact ⟨g,o,cs,h1,hf.kind g _ _ _ h2 (by decide) (by decide),h3⟩
theorem RecRow.below {w w':World} {a:Option Addr} {l:List RI} (h:RecRow w a l) (hb:Below w.heap.size w w'):RecRow w' a l:=h.frame (AFrame.of_below (N:=0) hb)
theorem RecRow.row {w:World} {a:Option Addr} {l:List RI} (h:RecRow w a l):RowAt w w.heap.size a (rcI l):=by
 intro hx
 obtain ⟨g,o,cs,h1,h2,h3⟩:=h (fun e=>hx (by rw [e]; rfl))
 exact ⟨g,o,h1,Qb h2,fun j u hu=>(Qc h2 (o+j)).trans (h3 j u hu)⟩
theorem Q18 {w:World} {N:Nat} {a:Option Addr} {c:Nat} {l:List RI} (h:w.ownsRow N 61 5 (.slice a l.length c) l.length (rcI l)):RecRow w a l∧l.length≤c:=by
 rcases h.2 with ⟨h1,h2⟩ | ⟨g,cap,cur,h1,_,h3,h4,_,h6,h7⟩
 ·exact ⟨fun hl=>absurd (List.length_eq_zero_iff.1 h2) hl,by omega⟩
 ·cases h1
  refine ⟨fun _=>⟨g,0,cur,rfl,h3,fun j u hu=>?_⟩,h4⟩
  rw [←h7] at hu
  have hj:j < l.length * 5:=by
   have:=(List.getElem?_eq_some_iff.1 hu).1
   rw [List.length_take] at this
   omega
  rw [List.getElem?_take_of_lt hj] at hu
  rw [Nat.zero_add,←hu]
  simp
def Q6o (z:List RI):Prop:=∀ x,x∈z→x.name.size≤4294967296∧x.data.size≤4294967296
def SetRow (w:World) (L:List ST) (xs:List Value):Prop :=
 xs.length=L.length * 3∧∀ i (h:i < L.length),∃ a c,xs[i * 3]? = some (.int .i64 (L[i].part:Nat))∧xs[i * 3+1]? = some (.int .i64 L[i].kind)∧xs[i * 3+2]? = some (.slice a L[i].l.length c)∧RecRow w a L[i].l∧L[i].l.length≤c
theorem SetRow.frame {N:Nat} {w w':World} {L:List ST} {xs:List Value} (h:SetRow w L xs) (hf:AFrame N w w'):SetRow w' L xs:=by
 refine ⟨h.1,fun i hi=>?_⟩
 obtain ⟨a,c,h1,h2,h3,h4,h5⟩:=h.2 i hi
 exact ⟨a,c,h1,h2,h3,h4.frame hf,h5⟩
theorem SetRow.more {w:World} {L:List ST} {xs:List Value} (h:SetRow w L xs) (s:ST) {a:Option Addr} {c:Nat} (hr:RecRow w a s.l) (hc:s.l.length≤c):SetRow w (L++[s]) (xs++[.int .i64 (s.part:Nat),.int .i64 s.kind,.slice a s.l.length c]):=by
 obtain ⟨h1,h2⟩:=h
 refine ⟨by simp [h1]; omega,fun i hi=>?_⟩
 rcases Nat.lt_or_ge i L.length with k | k
 ·obtain ⟨a',c',x1,x2,x3,x4⟩:=h2 i k
  rw [List.getElem_append_left k]
  refine ⟨a',c',?_,?_,?_,x4⟩ <;> rw [List.getElem?_append_left (by omega)] <;> assumption
 ·have e:i=L.length:=by simp at hi; omega
  subst e
  rw [List.getElem_append_right (Nat.le_refl _)]
  simp only [Nat.sub_self,List.getElem_cons_zero]
  refine ⟨a,c,?_,?_,?_,hr,hc⟩
  ·rw [List.getElem?_append_right (by omega),h1,Nat.sub_self]; rfl
  ·rw [List.getElem?_append_right (by omega),h1,Nat.add_sub_cancel_left]; rfl
  ·rw [List.getElem?_append_right (by omega),h1,Nat.add_sub_cancel_left]; rfl
def Sr (w:World) (N S:Nat) (az:Option Addr) (cz:Nat) (z:List RI) (L:List ST):Prop :=
 ∃ a c xs,w.heap[S]? = some (.cells #[.slice az z.length cz,.slice a L.length c] 199 (0,0))∧N≤S∧w.ownsRow N 201 3 (.slice a L.length c) L.length xs∧SetRow w L xs∧RecRow w az z
theorem Sr.lt {w:World} {N S:Nat} {az:Option Addr} {cz:Nat} {z:List RI} {L:List ST} (h:Sr w N S az cz z L):N≤S∧S < w.heap.size:=by
 obtain ⟨a,c,xs,h1,h2,_⟩:=h
 exact ⟨h2,Qb h1⟩
theorem Sr.below {w w':World} {N S:Nat} {az:Option Addr} {cz:Nat} {z:List RI} {L:List ST} (h:Sr w N S az cz z L) (hb:Below w.heap.size w w'):Sr w' N S az cz z L:=by
 obtain ⟨a,c,xs,h1,h2,h3,h4,h5⟩:=h
 exact ⟨a,c,xs,(hb.block S (Qb h1)).trans h1,h2,Qk h3 hb,h4.frame (AFrame.of_below (N:=0) hb),h5.below hb⟩
theorem Q5b {w:World} {S:Nat} {v u:Value} (h:w.heap[S]? = some (.cells #[v,u] 199 (0,0))) :
  w.cell? ⟨S,0,none⟩=some v∧w.cell? ⟨S,1,none⟩=some u∧w.frozen? ⟨S,0,none⟩=false∧w.frozen? ⟨S,1,none⟩=false:=by
 refine ⟨?_,?_,Qd h _,Qd h _⟩ <;> (rw [Qc h]; rfl)
theorem Qa0 (z:List RI) (n:ByteArray) (t:Int) (j:Nat) (h:j < z.length):(z[j].name=n∧z[j].ty=t→ofP (z.take (j+1)) n t=ofP (z.take j) n t++[z[j]])∧(¬ (z[j].name=n∧z[j].ty=t)→ofP (z.take (j+1)) n t=ofP (z.take j) n t):=by
 have e:z.take (j+1)=z.take j++[z[j]]:=List.take_succ_eq_append_getElem h
 rw [e]
 unfold ofP
 rw [List.filter_append]
 refine ⟨fun hc=>?_,fun hc=>?_⟩
 ·rw [List.filter_cons_of_pos (by simpa using hc)]; rfl
 ·rw [List.filter_cons_of_neg (by simpa using hc)]; simp
theorem Q3w (z:List RI) (n:ByteArray) (t:Int):(ofP z n t).length≤z.length:=List.length_filter_le _ _
set_option maxRecDepth 100000 in
set_option maxHeartbeats 2000000 in
theorem Qmi (N S:Nat) (az:Option Addr) (cz:Nat) (z:List RI) (L:List ST) (n:ByteArray) (t:Int) (w:World) (h:Sr w N S az cz z L) (hl:z.length≤134217728) :
  Calls Tryz.prog 196 #[.pointer (some ⟨S,0,none⟩),.string n,.int .i64 t] w fun e w'=>Q2u w (ofP z n t) e w':=by
 obtain ⟨i0,hi,hz0,hz1,hz2⟩:=info_parts Tryz.info61
 have Hi:=Qa hi
 have Hz0:=Qa hz0
 have Hz1:=Qa hz1
 have Hz2:=Qa hz2
 have HS:=Qa h
 have HT:=Qa (Qa0 z n t)
 have hLen:=Q3w z n t
 have HLe:=Qa (fun j=>Q3w (z.take j) n t)
 clear hi hz0 hz1 hz2 h
 obtain ⟨N0,hN0⟩:∃ N0,w.heap.size=N0:=⟨_,rfl⟩
 unfold Q2u
 rw [hN0]
 go_enter Tryz.func196,Tryz.ntmps196
 go_wp2_with fail
 go_loopg [7,8] (z.length+1) (fun g vb vi w'=>∃ (j m:Nat) (ab:Option Addr) (cb:Nat),vi=.int .i64 j∧j≤z.length∧g=z.length+1 - j∧vb=.slice ab m cb∧m≤j∧Hid ((ofP (z.take j) n t).length=m)∧Hid (w'.ownsRow N0 61 5 (.slice ab m cb) m (rcI (ofP (z.take j) n t)))∧Hid (Below N0 w w')∧N0≤w'.heap.size)
 case atStart=>exact ⟨0,0,none,0,rfl,Nat.zero_le _,rfl,rfl,Nat.le_refl _,Qa rfl,Qa (World.ownsRow_nil _ _ _ _),Qa (Below.refl _ _),by omega⟩
 case round =>
  obtain ⟨j,m,ab,cb,rfl,hj,rfl,rfl,hm,Hm,HO,HB,hNw⟩:=hrel
  have hbW:Below w.heap.size w wr:=by rw [hN0]; exact Q6 HB
  obtain ⟨a,c,xs,hS,_,_,_,hz⟩:=(Q6 HS).below hbW
  obtain ⟨c0,_,f0,_⟩:=Q5b hS
  have hSl:=Qb hS
  clear hbW hS
  by_cases cj:j < z.length
  ·obtain ⟨b,o,rfl,hb,x0,x1,x2,x3,x4⟩:=Q2R hz.row j cj
   obtain ⟨ht1,ht2⟩:=Q6 HT j cj
   generalize z[j]=x at *
   obtain ⟨n0,t0,k0,l0,d0⟩:=x
   simp only at x0 x1 x2 x3 x4 ht1 ht2
   clear hz
   by_cases cc:n0=n∧t0=t
   ·have hT2:=ht1 cc
    have f1:=Q1i cc.1
    have f2:(t0 == t)=true:=by rw [beq_iff_eq]; exact cc.2
    have HT2:=Qa hT2
    clear ht1 ht2 cc hT2
    generalize ofP (z.take j) n t=Q at *
    go_wp2_with (at_builtin; refine Qe _ rfl _ _ 27 27 rfl N0 61 i0 (.agg #[.string ⟨#[]⟩,.int .i64 0,.int .i64 0,.int .i64 0,.string ⟨#[]⟩]) 5 56 Tryz.underlying27 (Q6 Hi) (Q6 Hz0) (Q6 Hz1) (Q6 Hz2) rfl (.slice ab m cb) m (rcI Q) (by rfl) ((Q6 HO).alloc _) (.slice (some ⟨wr.heap.size,0,none⟩) 1 1) 1 [.string n0,.int .i64 t0,.int .i64 k0,.int .i64 l0,.string d0] (by rfl) (Src.ofSlice _ Tryz.underlying27 ⟨wr.heap.size,0,none⟩ 1 1 _ rfl (Q0E _ _ _ _ _ _ _ _ rfl) Qa1) (by unfold maxLen; omega) (by omega) (by simp; omega) ?_; intro a1 e1 w2 hown2 hgrow2 hat2)
    go_roundg (z.length+1 - (j+1))
    case measure=>omega
    case rel =>
     refine ⟨j+1,m+1,a1,e1,by go_num,by omega,rfl,rfl,by omega,Qa (by rw [Q6 HT2,List.length_append,Q6 Hm]; rfl),?_,Qa (((Q6 HB).alloc hNw _).trans (Qn ((Q6 HO).alloc _) hgrow2 (by simp; omega))),?_⟩
     ·rw [Q6 HT2,Q2O]; exact Qa hown2
     ·have:=hgrow2.size; simp at this; omega
   ·have hT2:=ht2 cc
    have hcase:(n0.toList == n.toList)=false∨((n0.toList == n.toList)=true∧(t0 == t)=false):=by
     by_cases q:n0=n
     ·exact .inr ⟨Q1i q,beq_eq_false_iff_ne.2 fun h=>cc ⟨q,h⟩⟩
     ·exact .inl (Q1w q)
    have HT2:=Qa hT2
    clear ht1 ht2 cc hT2
    rcases hcase with f1 | ⟨f1,f2⟩
    all_goals
     go_wp2_with fail
     go_roundg (z.length+1 - (j+1))
     case measure=>omega
     case rel=>exact ⟨j+1,m,ab,cb,by go_num,by omega,rfl,rfl,by omega,Qa (by rw [Q6 HT2]; exact Q6 Hm),Qa (by rw [Q6 HT2]; exact Q6 HO),HB,hNw⟩
  ·have ej:j=z.length:=by omega
   subst ej
   have ho:=Q6 HO
   have hm2:=Q6 Hm
   rw [List.take_length] at ho hm2
   subst hm2
   have HO2:=Qa ho
   clear ho HO Hm hz
   go_wp2_with fail
   go_ret
   exact ⟨ab,cb,rfl,Q6 HO2,Q6 HB⟩
theorem Qmk {x0 x1:Int} {a:Option Addr} {n c:Nat}:∀ v∈([.int .i64 x0,.int .i64 x1,.slice a n c]:List Value),v.oneCell'=true:=by
 intro v hv
 simp at hv
 rcases hv with rfl | rfl | rfl <;> rfl
set_option maxRecDepth 100000 in
set_option maxHeartbeats 2000000 in
theorem Qcw (N S:Nat) (az:Option Addr) (cz:Nat) (z:List RI) (L:List ST) (s:ST) (a:Option Addr) (c:Nat) (w:World) (h:Sr w N S az cz z L) (hr:RecRow w a s.l) (hc:s.l.length≤c) (hl:L.length≤134217728) :
  Calls Tryz.prog 197 #[.pointer (some ⟨S,0,none⟩),.int .i64 (s.part:Nat),.int .i64 s.kind,.slice a s.l.length c] w fun e w'=>e=.returned (.tuple #[])∧Sr w' N S az cz z (L++[s])∧AFrame N w w':=by
 obtain ⟨aL,cL,xs,hR,hNR,o1,hset,hzone⟩:=h
 have hlt:=Qb hR
 obtain ⟨_,c0,_,z0⟩:=Q5b hR
 obtain ⟨i0,hi,hz0,hz1,hz2⟩:=info_parts Tryz.info201
 have Hi:=Qa hi
 have Hz0:=Qa hz0
 have Hz1:=Qa hz1
 have Hz2:=Qa hz2
 have HR:=Qa hR
 have O1:=Qa o1
 have HSet:=Qa hset
 have HZone:=Qa hzone
 have HRec:=Qa hr
 have HMore:=Qa (fun (W:World) (h1:SetRow W L xs) (h2:RecRow W a s.l)=>h1.more s h2 hc)
 clear hi hz0 hz1 hz2 hR o1 hset hzone hr hc
 generalize s.l.length=ns at *
 generalize (s.part:Int)=ps at *
 generalize s.kind=ks at *
 go_enter Tryz.func197,Tryz.ntmps197
 have hNw:N≤w.heap.size:=by omega
 have hA:Below w.heap.size w (w.alloc (.cells #[.int .i64 ps,.int .i64 ks,.slice a ns c] 201)):=(Below.refl _ _).alloc (Nat.le_refl _) _
 have hRA:=(hA.block S hlt).trans (Q6 HR)
 have HRA:=Qa hRA
 have HA:=Qa hA
 have OA:=Qa (Qk (Q6 O1) hA)
 clear hA hRA
 go_wp2_with (at_builtin; refine Qe _ rfl _ _ 142 142 rfl N 201 i0 (.agg #[.int .i64 0,.int .i64 0,.slice none 0 0]) 3 40 Tryz.underlying142 (Q6 Hi) (Q6 Hz0) (Q6 Hz1) (Q6 Hz2) rfl (.slice aL L.length cL) L.length xs (by rfl) (Q6 OA) (.slice (some ⟨w.heap.size,0,none⟩) 1 1) 1 [.int .i64 ps,.int .i64 ks,.slice a ns c] (by rfl) (Src.ofSlice _ Tryz.underlying142 ⟨w.heap.size,0,none⟩ 1 1 _ rfl (Q3t _ _ _ _ _ _ rfl) Qmk) (by unfold maxLen; omega) (by omega) (by simp; omega) ?_; intro a1 c1 w9 hown9 hgrow9 hat9; have hR9:=Q02 (Q6 OA) hgrow9 (Q6 HRA) (by decide); obtain ⟨n9,n0,p9,p0⟩:=Q5b hR9; have hl9:=Qb hR9)
 have hF9:AFrame N w (w9.setCell ⟨S,1,none⟩ (.slice a1 (L.length+1) c1)) :=
  ((AFrame.of_below (Q6 HA)).trans (AFrame.of_append (Q6 OA) hgrow9 (.inl rfl))).trans (AFrame.of_grown (Ql w9 S 1 (.slice a1 (L.length+1) c1)) hNR hR9 (.inr rfl))
 have hw:Sr (w9.setCell ⟨S,1,none⟩ (.slice a1 (L.length+1) c1)) N S az cz z (L++[s]):=by
  refine ⟨a1,c1,xs++[.int .i64 ps,.int .i64 ks,.slice a ns c],?_,hNR,?_,?_,?_⟩
  ·rw [List.length_append]
   exact Qo hR9 1 _
  ·rw [List.length_append]
   exact Qi hown9 hR9 (by decide) 1 _
  ·exact Q6 HMore _ ((Q6 HSet).frame hF9) ((Q6 HRec).frame hF9)
  ·exact (Q6 HZone).frame hF9
 go_end0
 exact ⟨rfl,hw,hF9⟩
set_option maxRecDepth 100000 in
set_option maxHeartbeats 2000000 in
theorem Q8C (N S:Nat) (az:Option Addr) (cz:Nat) (z:List RI) (L:List ST) (p:Nat) (n:ByteArray) (t:Int) (w:World) (h:Sr w N S az cz z L) (hz:z.length≤134217728) (hl:L.length≤134217728) :
  Calls Tryz.prog 184 #[.pointer (some ⟨S,0,none⟩),.int .i64 (p:Nat),.string n,.int .i64 t] w fun e w'=>e=.returned (.tuple #[])∧Sr w' N S az cz z (Q0c z L p n t)∧AFrame N w w':=by
 have k1:=Qmi N S az cz z L n t w h hz
 have K1:=Qa k1
 have HS:=Qa h
 have HW:Hid ((ofP z n t=[]→Q0c z L p n t=L)∧(¬ ofP z n t=[]→Q0c z L p n t=L++[⟨p,t,ofP z n t⟩])):=⟨fun h=>by unfold Q0c; rw [if_pos h],fun h=>by unfold Q0c; rw [if_neg h]⟩
 have hlen:=Q3w z n t
 clear k1 h
 generalize Q0c z L p n t=R at *
 generalize ofP z n t=Q at *
 go_enter Tryz.func184,Tryz.ntmps184
 go_wp2_with fail
 refine (Q6 K1).mono ?_
 rintro e w1 ⟨a,c,rfl,o1,b1⟩
 obtain ⟨hr,hc⟩:=Q18 o1
 have HS1:=Qa ((Q6 HS).below b1)
 have HF1:=Qa (AFrame.of_below (N:=N) b1)
 have HRec:=Qa hr
 clear o1 b1 hr K1 HS
 by_cases cq:Q=[]
 ·have hR:=(Q6 HW).1 cq
  subst hR
  subst cq
  go_wp2_with fail
  go_end0
  exact ⟨rfl,Q6 HS1,Q6 HF1⟩
 ·have hR:=(Q6 HW).2 cq
  have hq:0 < Q.length:=List.length_pos_iff.2 cq
  have HR:=Qa hR
  have ka:=Qcw N S az cz z L ⟨p,t,Q⟩ a c w1 (Q6 HS1) (Q6 HRec) hc hl
  have KA:=Qa ka
  clear hR cq ka HW
  go_wp2_with fail
  refine (Q6 KA).mono ?_
  rintro e w2 ⟨rfl,hS2,hF2⟩
  have HS2:=Qa hS2
  have HF2:=Qa ((Q6 HF1).trans hF2)
  clear hS2 hF2
  go_wp2_with fail
  go_end0
  exact ⟨rfl,by rw [Q6 HR]; exact Q6 HS2,Q6 HF2⟩
theorem Sr.get {w:World} {N S:Nat} {az:Option Addr} {cz:Nat} {z:List RI} {L:List ST} (h:Sr w N S az cz z L) :
  ∃ a c,w.cell? ⟨S,0,none⟩=some (.slice az z.length cz)∧w.cell? ⟨S,1,none⟩=some (.slice a L.length c)∧w.frozen? ⟨S,0,none⟩=false∧w.frozen? ⟨S,1,none⟩=false∧RecRow w az z ∧
   ∀ i (_:i < L.length),∃ b o a' c',a=some ⟨b,o,none⟩∧b < w.heap.size∧w.cell? ⟨b,o+i * 3,none⟩=some (.int .i64 (L[i].part:Nat))∧w.cell? ⟨b,o+i * 3+1,none⟩=some (.int .i64 L[i].kind)∧w.cell? ⟨b,o+i * 3+2,none⟩=some (.slice a' L[i].l.length c')∧RecRow w a' L[i].l∧L[i].l.length≤c':=by
 obtain ⟨a,c,xs,h1,_,h3,h4,h5⟩:=h
 obtain ⟨c0,c1,f0,f1⟩:=Q5b h1
 refine ⟨a,c,c0,c1,f0,f1,h5,fun i hi=>?_⟩
 obtain ⟨a',c',x1,x2,x3,x4,x5⟩:=h4.2 i hi
 obtain ⟨b,o,e1,e2,e3⟩:=Q0u h3 (fun e=>by rw [e] at x1; cases x1)
 exact ⟨b,o,a',c',e1,e2,e3 _ _ x1,e3 _ _ x2,e3 _ _ x3,x4,x5⟩
set_option maxRecDepth 100000 in
set_option maxHeartbeats 2000000 in
theorem QcS (N S:Nat) (az:Option Addr) (cz:Nat) (z:List RI) (L:List ST) (t:Int) (w:World) (h:Sr w N S az cz z L) (hl:L.length≤134217728) :
  Calls Tryz.prog 199 #[.pointer (some ⟨S,0,none⟩),.int .i64 t] w fun e w'=>e=.returned (.bool (Q0Q L t))∧w'=w:=by
 have HY:Hid (∀ j (hj:j < L.length),L[j].kind=t→Q0Q L t=true):=fun j hj e=>by
  unfold Q0Q
  rw [List.any_eq_true]
  exact ⟨L[j],List.getElem_mem hj,decide_eq_true e⟩
 have HNo:Hid ((∀ m (hm:m < L.length),L[m].kind≠t)→Q0Q L t=false):=fun k=>by
  unfold Q0Q
  rw [List.any_eq_false]
  intro x hx
  obtain ⟨i,hi,rfl⟩:=List.mem_iff_getElem.1 hx
  simpa using k i hi
 obtain ⟨a,c,c0,c1,f0,f1,_,hg⟩:=h.get
 have HG:=Qa hg
 have hlt:=h.lt.2
 clear hg h
 generalize Q0Q L t=R at *
 go_enter Tryz.func199,Tryz.ntmps199
 go_wp2_with fail
 go_loop [5] (fun i=>∃ j:Nat,j≤L.length∧i=.int .i64 j∧Hid (∀ m (hm:m < L.length),m < j→L[m].kind≠t)) (fun i=>L.length - (intOf i).toNat)
 case atStart=>exact ⟨0,Nat.zero_le _,rfl,Qa fun m _ hm=>by omega⟩
 case round =>
  obtain ⟨j,hj,rfl,HL⟩:=hrel
  by_cases cj:j < L.length
  ·obtain ⟨b,o,a',c',rfl,hb,x0,x1,x2,_,_⟩:=Q6 HG j cj
   have hy:=Q6 HY j cj
   have HNx:Hid (L[j].kind≠t→∀ m (hm:m < L.length),m < j+1→L[m].kind≠t):=Qa fun h1 m hm hm2=>by
    rcases Nat.lt_or_ge m j with k | k
    ·exact Q6 HL m hm k
    ·have:m=j:=by omega
     subst this
     exact h1
   clear HL HY
   generalize L[j].kind=kd at *
   by_cases ck:kd=t
   ·have hR:=hy ck
    subst hR
    have f2:(kd == t)=true:=by rw [beq_iff_eq]; exact ck
    clear ck hy HNx
    go_wp2_with fail
    go_ret
    exact ⟨rfl,rfl⟩
   ·have f2:(kd == t)=false:=beq_eq_false_iff_ne.2 ck
    have HN2:=Qa (Q6 HNx ck)
    clear ck hy HNx
    go_wp2_with fail
    go_round
    case rel=>exact ⟨j+1,by omega,by go_num,HN2⟩
    case measure=>simp [intOf]; omega
  ·have ej:j=L.length:=by omega
   subst ej
   have hR:=Q6 HNo fun m hm=>Q6 HL m hm hm
   subst hR
   clear HNo HY HL
   go_wp2_with fail
   go_ret
   exact ⟨rfl,rfl⟩
set_option maxRecDepth 100000 in
set_option maxHeartbeats 2000000 in
theorem Qgr (N S:Nat) (az:Option Addr) (cz:Nat) (z:List RI) (L:List ST) (t:Int) (w:World) (h:Sr w N S az cz z L) (hl:L.length≤134217728) :
  Calls Tryz.prog 186 #[.pointer (some ⟨S,0,none⟩),.int .i64 t] w fun e w'=>e=.returned (.bool (Q1K L t))∧w'=w:=by
 have key:=QcS N S az cz z L t w h hl
 have Key:=Qa key
 obtain ⟨a,c,c0,c1,f0,f1,hzz,hgg⟩:=h.get
 have hlt:=h.lt.2
 clear key h hzz hgg
 by_cases ct:t=255
 ·subst ct
  have hR:Q1K L 255=decide (0 < L.length):=by unfold Q1K; rw [if_pos rfl]
  rw [hR]
  generalize L.length=n at *
  by_cases cn:0 < n
  ·go_enter Tryz.func186,Tryz.ntmps186
   go_wp2_with fail
   go_ret
   exact ⟨by simp [cn],rfl⟩
  ·have e:n=0:=by omega
   subst e
   go_enter Tryz.func186,Tryz.ntmps186
   go_wp2_with fail
   go_ret
   exact ⟨rfl,rfl⟩
 ·have f2:(t == 255)=false:=beq_eq_false_iff_ne.2 ct
  have hR:Q1K L t=Q0Q L t:=by unfold Q1K; rw [if_neg ct]
  rw [hR]
  clear hR ct
  go_enter Tryz.func186,Tryz.ntmps186
  go_wp2_with fail
  refine (Q6 Key).mono ?_
  rintro e w' ⟨rfl,rfl⟩
  go_wp2_with fail
  go_ret
  exact ⟨rfl,rfl⟩
def Qlc (w:World) (l:List RI) (e:Ending) (w':World):Prop:=∃ (a:Option Addr) (c:Nat),e=.returned (.slice a l.length c)∧RecRow w a l∧l.length≤c∧w'=w
set_option maxRecDepth 100000 in
set_option maxHeartbeats 2000000 in
theorem Qfa (N S:Nat) (az:Option Addr) (cz:Nat) (z:List RI) (L:List ST) (w:World) (h:Sr w N S az cz z L) (hl:L.length≤134217728) :
  Calls Tryz.prog 200 #[.pointer (some ⟨S,0,none⟩)] w fun e w'=>Qlc w (Q0r L) e w':=by
 have HY:Hid (∀ j (hj:j < L.length),(∀ m (hm:m < L.length),m < j→L[m].kind≠33)→L[j].kind=33→Q0r L=L[j].l):=fun j hj k e=>by
  unfold Q0r
  have:(L.find? fun s=>decide (s.kind=33))=some L[j]:=by
   rw [List.find?_eq_some_iff_getElem]
   exact ⟨decide_eq_true e,j,hj,rfl,fun m hm=>by simpa using k m (by omega) hm⟩
  rw [this]
 have HNo:Hid ((∀ m (hm:m < L.length),L[m].kind≠33)→Q0r L=[]):=fun k=>by
  unfold Q0r
  have:(L.find? fun s=>decide (s.kind=33))=none:=by
   rw [List.find?_eq_none]
   intro x hx
   obtain ⟨i,hi,rfl⟩:=List.mem_iff_getElem.1 hx
   simpa using k i hi
  rw [this]
 obtain ⟨a,c,c0,c1,f0,f1,_,hg⟩:=h.get
 have HG:=Qa hg
 have hlt:=h.lt.2
 clear hg h
 generalize Q0r L=R at *
 go_enter Tryz.func200,Tryz.ntmps200
 go_wp2_with fail
 go_loop [3] (fun i=>∃ j:Nat,j≤L.length∧i=.int .i64 j∧Hid (∀ m (hm:m < L.length),m < j→L[m].kind≠33)) (fun i=>L.length - (intOf i).toNat)
 case atStart=>exact ⟨0,Nat.zero_le _,rfl,Qa fun m _ hm=>by omega⟩
 case round =>
  obtain ⟨j,hj,rfl,HL⟩:=hrel
  by_cases cj:j < L.length
  ·obtain ⟨b,o,a',c',rfl,hb,x0,x1,x2,x3,x4⟩:=Q6 HG j cj
   have hy:=Q6 HY j cj (Q6 HL)
   have HNx:Hid (L[j].kind≠33→∀ m (hm:m < L.length),m < j+1→L[m].kind≠33):=Qa fun h1 m hm hm2=>by
    rcases Nat.lt_or_ge m j with k | k
    ·exact Q6 HL m hm k
    ·have:m=j:=by omega
     subst this
     exact h1
   clear HL HY
   generalize L[j]=s at *
   obtain ⟨sp,kd,sl⟩:=s
   simp only at x0 x1 x2 x3 x4 hy HNx
   have X3:=Qa x3
   clear x3
   by_cases ck:kd=33
   ·have hR:=hy ck
    subst hR
    subst ck
    clear hy HNx
    go_wp2_with fail
    go_ret
    exact ⟨_,_,rfl,Q6 X3,x4,rfl⟩
   ·have f2:(kd == 33)=false:=beq_eq_false_iff_ne.2 ck
    have HN2:=Qa (Q6 HNx ck)
    clear ck hy HNx
    go_wp2_with fail
    go_round
    case rel=>exact ⟨j+1,by omega,by go_num,HN2⟩
    case measure=>simp [intOf]; omega
  ·have ej:j=L.length:=by omega
   subst ej
   have hR:=Q6 HNo fun m hm=>Q6 HL m hm hm
   subst hR
   clear HNo HY HL
   go_wp2_with fail
   go_ret
   exact ⟨none,0,rfl,fun h=>absurd rfl h,Nat.le_refl _,rfl⟩
theorem Qjp (d:ByteArray) (w:World) (hd:d.size≤4294967296):Calls Tryz.prog 201 #[.string d] w fun e w'=>e=.returned (.string (Q0q d))∧w'=w:=by
 by_cases c:d.size < 6
 ·have hR:Q0q d=⟨#[]⟩:=if_pos c
  rw [hR]
  go_enter Tryz.func201,Tryz.ntmps201
  go_wp2_with fail
  go_ret
  exact ⟨rfl,rfl⟩
 ·have hR:Q0q d=d.extract 6 d.size:=if_neg c
  rw [hR]
  go_enter Tryz.func201,Tryz.ntmps201
  go_wp2_with fail
  go_ret
  exact ⟨rfl,rfl⟩
set_option maxRecDepth 100000 in
set_option maxHeartbeats 2000000 in
theorem Qit (x:RI) (node:ByteArray) (w:World):Calls Tryz.prog 202 #[.agg #[.string x.name,.int .i64 x.ty,.int .i64 x.cl,.int .i64 x.ttl,.string x.data],.string node] w fun e w'=>e=.returned (.bool (Q2e node x))∧Below w.heap.size w w':=by
 have HR:Hid (Q2e node x=decide (x.name=node∧(x.ty=1∨x.ty=28))):=rfl
 generalize Q2e node x=R at *
 obtain ⟨nm,ty,cl,ttl,dt⟩:=x
 simp only at *
 have hcase:((nm.toList == node.toList)=false∧R=false)∨((nm.toList == node.toList)=true∧(ty == 1)=true∧R=true)∨((nm.toList == node.toList)=true∧(ty == 1)=false∧(ty == 28)=true∧R=true)∨((nm.toList == node.toList)=true∧(ty == 1)=false∧(ty == 28)=false∧R=false):=by
  rw [Q6 HR]
  by_cases c1:nm=node
  ·by_cases c2:ty=1
   ·exact .inr (.inl ⟨Q1i c1,by simp [c2],by simp [c1,c2]⟩)
   ·by_cases c3:ty=28
    ·exact .inr (.inr (.inl ⟨Q1i c1,by simp [c2],by simp [c3],by simp [c1,c3]⟩))
    ·exact .inr (.inr (.inr ⟨Q1i c1,by simp [c2],by simp [c3],by simp [c2,c3]⟩))
  ·exact .inl ⟨Q1w c1,by simp [c1]⟩
 clear HR
 go_enter Tryz.func202,Tryz.ntmps202
 rcases hcase with ⟨f1,rfl⟩ | ⟨f1,f2,rfl⟩ | ⟨f1,f2,f3,rfl⟩ | ⟨f1,f2,f3,rfl⟩
 all_goals
  go_wp2_with fail
  go_ret
  exact ⟨rfl,(Below.refl _ _).alloc (Nat.le_refl _) _⟩
set_option maxRecDepth 100000 in
set_option maxHeartbeats 2000000 in
theorem Qme (N S:Nat) (az:Option Addr) (cz:Nat) (z:List RI) (L:List ST) (n:ByteArray) (w:World) (h:Sr w N S az cz z L) (hl:z.length≤134217728) (hz:Q6o z) :
  Calls Tryz.prog 183 #[.pointer (some ⟨S,0,none⟩),.string n] w fun e w'=>e=.returned (.bool (Q5Y z n))∧w'=w:=by
 have HY:Hid (∀ j (hj:j < z.length),Q06 z[j].name n 0=true→Q5Y z n=true):=fun j hj e=>by
  unfold Q5Y
  rw [List.any_eq_true]
  exact ⟨z[j],List.getElem_mem hj,e⟩
 have HNo:Hid ((∀ m (hm:m < z.length),Q06 z[m].name n 0=false)→Q5Y z n=false):=fun k=>by
  unfold Q5Y
  rw [List.any_eq_false]
  intro x hx
  obtain ⟨i,hi,rfl⟩:=List.mem_iff_getElem.1 hx
  simpa using k i hi
 obtain ⟨a,c,c0,c1,f0,f1,hz0,_⟩:=h.get
 have HRow:=Qa hz0.row
 have hlt:=h.lt.2
 clear h hz0
 generalize Q5Y z n=R at *
 go_enter Tryz.func183,Tryz.ntmps183
 go_wp2_with fail
 go_loop [5] (fun i=>∃ j:Nat,j≤z.length∧i=.int .i64 j∧Hid (∀ m (hm:m < z.length),m < j→Q06 z[m].name n 0=false)) (fun i=>z.length - (intOf i).toNat)
 case atStart=>exact ⟨0,Nat.zero_le _,rfl,Qa fun m _ hm=>by omega⟩
 case round =>
  obtain ⟨j,hj,rfl,HL⟩:=hrel
  by_cases cj:j < z.length
  ·obtain ⟨b,o,rfl,hb,x0,x1,x2,x3,x4⟩:=Q2R (Q6 HRow) j cj
   have hy:=Q6 HY j cj
   have hsz:=(hz _ (List.getElem_mem cj)).1
   have HNx:Hid (Q06 z[j].name n 0=false→∀ m (hm:m < z.length),m < j+1→Q06 z[m].name n 0=false):=Qa fun h1 m hm hm2=>by
    rcases Nat.lt_or_ge m j with k | k
    ·exact Q6 HL m hm k
    ·have:m=j:=by omega
     subst this
     exact h1
   clear HL HY
   generalize z[j]=x at *
   obtain ⟨n0,t0,k0,l0,d0⟩:=x
   simp only at x0 x1 x2 x3 x4 hy HNx hsz
   have key:=QdZ n0 n w hsz
   generalize Q06 n0 n 0=q at *
   have Key:=Qa key
   have HYq:=Qa hy
   clear key hy
   cases q with
   | true =>
    have hR:=Q6 HYq rfl
    subst hR
    go_wp2_with fail
    refine (Q6 Key).mono ?_
    rintro e w' ⟨rfl,rfl⟩
    go_wp2_with fail
    go_ret
    exact ⟨rfl,rfl⟩
   | false =>
    have HN2:=Qa (Q6 HNx rfl)
    clear HNx HYq
    go_wp2_with fail
    refine (Q6 Key).mono ?_
    rintro e w' ⟨rfl,rfl⟩
    go_wp2_with fail
    go_round
    case rel=>exact ⟨j+1,by omega,by go_num,HN2⟩
    case measure=>simp [intOf]; omega
  ·have ej:j=z.length:=by omega
   subst ej
   have hR:=Q6 HNo fun m hm=>Q6 HL m hm hm
   subst hR
   clear HNo HY HL
   go_wp2_with fail
   go_ret
   exact ⟨rfl,rfl⟩
theorem Q26 (z:List RI) (n:ByteArray) (L:List ST) (j:Nat) (h:j < z.length):Q0f z n L (j+1)=if z[j].name=n∧Q0Q (Q0f z n L j) z[j].ty=false then Q0c z (Q0f z n L j) 0 n z[j].ty else Q0f z n L j:=by
 show (match z[j]? with | none=>_ | some x=>_)=_
 rw [List.getElem?_eq_getElem h]
theorem Q24 (z:List RI) (L:List ST) (p:Nat) (n:ByteArray) (t:Int):(Q0c z L p n t).length≤L.length+1:=by
 unfold Q0c
 split
 ·omega
 ·simp
theorem Q5I (z:List RI) (n:ByteArray) (L:List ST):∀ j,(Q0f z n L j).length≤L.length+j
 | 0=>Nat.le_refl _
 | j+1=>by
  have ih:=Q5I z n L j
  rcases Nat.lt_or_ge j z.length with h | h
  ·rw [Q26 z n L j h]
   split
   ·have:=Q24 z (Q0f z n L j) 0 n z[j].ty
    omega
   ·omega
  ·show (match z[j]? with | none=>_ | some x=>_:List ST).length≤_
   rw [List.getElem?_eq_none h]
   show (Q0f z n L j).length≤_
   omega
set_option maxRecDepth 100000 in
set_option maxHeartbeats 2000000 in
theorem Qht (N S:Nat) (az:Option Addr) (cz:Nat) (z:List RI) (L:List ST) (n:ByteArray) (w:World) (h:Sr w N S az cz z L) (hz:z.length+L.length≤134217728) :
  Calls Tryz.prog 198 #[.pointer (some ⟨S,0,none⟩),.string n] w fun e w'=>e=.returned (.tuple #[])∧Sr w' N S az cz z (Q0f z n L z.length)∧AFrame N w w':=by
 have HStep:=Qa (Q26 z n L)
 have HLen:=Qa (Q5I z n L)
 have HS:=Qa h
 clear h
 have HZ:Hid (Q0f z n L 0=L):=rfl
 go_enter Tryz.func198,Tryz.ntmps198
 go_wp2_with fail
 go_loopg [4] (z.length+1) (fun g vi w'=>∃ (j:Nat),vi=.int .i64 j∧j≤z.length∧g=z.length+1 - j∧Hid (Sr w' N S az cz z (Q0f z n L j))∧Hid (AFrame N w w'))
 case atStart=>exact ⟨0,rfl,Nat.zero_le _,rfl,Qa (by rw [Q6 HZ]; exact Q6 HS),Qa (AFrame.refl _ _)⟩
 case round =>
  obtain ⟨j,rfl,hj,rfl,HSr,HF⟩:=hrel
  obtain ⟨a,c,c0,c1,f0,f1,hz0,_⟩:=(Q6 HSr).get
  have hlt:=(Q6 HSr).lt.2
  by_cases cj:j < z.length
  ·obtain ⟨b,o,rfl,hb,x0,x1,x2,x3,x4⟩:=Q2R hz0.row j cj
   have hst:=Q6 HStep j cj
   have hln:=Q6 HLen j
   generalize z[j]=x at *
   obtain ⟨n0,t0,k0,l0,d0⟩:=x
   simp only at x0 x1 x2 x3 x4 hst
   obtain ⟨M,hM⟩:∃ M,Q0f z n L (j+1)=M:=⟨_,rfl⟩
   rw [hM] at hst
   have HMe:=Qa hM
   clear hM
   generalize Q0f z n L j=Q at *
   have kh:=QcS N S (some ⟨b,o,none⟩) cz z Q t0 wr (Q6 HSr) (by omega)
   have kw:=Q8C N S (some ⟨b,o,none⟩) cz z Q 0 n t0 wr (Q6 HSr) (by omega) (by omega)
   have KH:=Qa kh
   have KW:=Qa kw
   clear kh kw hz0
   by_cases cn:n0=n
   ·have f2:=Q1i cn
    cases hq:Q0Q Q t0 with
    | true =>
     rw [hq] at hst KH
     rw [if_neg (by simp)] at hst
     subst hst
     clear cn hq
     go_wp2_with fail
     refine (Q6 KH).mono ?_
     rintro e w' ⟨rfl,rfl⟩
     go_wp2_with fail
     go_roundg (z.length+1 - (j+1))
     case measure=>omega
     case rel=>exact ⟨j+1,by go_num,by omega,rfl,Qa (by rw [Q6 HMe]; exact Q6 HSr),HF⟩
    | false =>
     rw [hq] at hst KH
     rw [if_pos ⟨cn,rfl⟩] at hst
     have HM:=Qa hst
     clear cn hq hst
     go_wp2_with fail
     refine (Q6 KH).mono ?_
     rintro e w' ⟨rfl,rfl⟩
     go_wp2_with fail
     refine (Q6 KW).mono ?_
     rintro e w2 ⟨rfl,hS2,hF2⟩
     have HS2:=Qa hS2
     have HF2:=Qa ((Q6 HF).trans hF2)
     clear hS2 hF2
     go_wp2_with fail
     go_roundg (z.length+1 - (j+1))
     case measure=>omega
     case rel=>exact ⟨j+1,by go_num,by omega,rfl,Qa (by rw [Q6 HMe,Q6 HM]; exact Q6 HS2),HF2⟩
   ·have f2:=Q1w cn
    rw [if_neg (fun e=>cn e.1)] at hst
    subst hst
    clear cn
    go_wp2_with fail
    go_roundg (z.length+1 - (j+1))
    case measure=>omega
    case rel=>exact ⟨j+1,by go_num,by omega,rfl,Qa (by rw [Q6 HMe]; exact Q6 HSr),HF⟩
  ·have ej:j=z.length:=by omega
   subst ej
   clear hz0
   go_wp2_with fail
   go_end0
   exact ⟨rfl,Q6 HSr,Q6 HF⟩
set_option maxRecDepth 100000 in
set_option maxHeartbeats 2000000 in
theorem Qb4 (N S:Nat) (az:Option Addr) (cz:Nat) (z:List RI) (L:List ST) (n:ByteArray) (t:Int) (w:World) (h:Sr w N S az cz z L) (hz:z.length+L.length≤134217720) :
  Calls Tryz.prog 185 #[.pointer (some ⟨S,0,none⟩),.string n,.int .i64 t] w fun e w'=>e=.returned (.tuple #[])∧Sr w' N S az cz z (Q0w z L n t)∧AFrame N w w':=by
 have HS:=Qa h
 clear h
 by_cases c1:t=255
 ·subst c1
  have hR:Q0w z L n 255=Q0f z n L z.length:=by unfold Q0w; rw [if_pos rfl]
  rw [hR]
  have ka:=Qht N S az cz z L n w (Q6 HS) (by omega)
  have KA:=Qa ka
  clear ka hR
  generalize Q0f z n L z.length=M at *
  go_enter Tryz.func185,Tryz.ntmps185
  go_wp2_with fail
  refine (Q6 KA).mono ?_
  rintro e w2 ⟨rfl,hS2,hF2⟩
  have HS2:=Qa hS2
  have HF2:=Qa hF2
  clear hS2 hF2
  go_wp2_with fail
  refine bodyPost_ret (results_none rfl _ _ _) rfl ?_
  exact ⟨rfl,Q6 HS2,Q6 HF2⟩
 ·have f1:(t == 255)=false:=beq_eq_false_iff_ne.2 c1
  by_cases c2:t=5
  ·subst c2
   have hR:Q0w z L n 5=Q0c z L 0 n 5:=by unfold Q0w; rw [if_neg (by decide),if_pos rfl]
   rw [hR]
   have ka:=Q8C N S az cz z L 0 n 5 w (Q6 HS) (by omega) (by omega)
   have KA:=Qa ka
   clear ka hR c1 f1
   generalize Q0c z L 0 n 5=M at *
   go_enter Tryz.func185,Tryz.ntmps185
   go_wp2_with fail
   refine (Q6 KA).mono ?_
   rintro e w2 ⟨rfl,hS2,hF2⟩
   have HS2:=Qa hS2
   have HF2:=Qa hF2
   clear hS2 hF2
   go_wp2_with fail
   refine bodyPost_ret (results_none rfl _ _ _) rfl ?_
   exact ⟨rfl,Q6 HS2,Q6 HF2⟩
  ·have f2:(t == 5)=false:=beq_eq_false_iff_ne.2 c2
   have hR:Q0w z L n t=Q0c z (Q0c z L 0 n 5) 0 (Q7t z n) t:=by unfold Q0w; rw [if_neg c1,if_neg c2]
   rw [hR]
   clear hR c1 c2
   have ko:=Qmi N S az cz z L n 5 w (Q6 HS) (by omega)
   have kw:=fun (W:World) (h:Sr W N S az cz z L)=>Q8C N S az cz z L 0 n 5 W h (by omega) (by omega)
   have hwl:=Q24 z L 0 n 5
   have kw2:=fun (W:World) (m:ByteArray) (h:Sr W N S az cz z (Q0c z L 0 n 5))=>Q8C N S az cz z (Q0c z L 0 n 5) 0 m t W h (by omega) (by omega)
   have HA:Hid ((ofP z n 5=[]→Q7t z n=n)∧(∀ x l,ofP z n 5=x :: l→Q7t z n=x.data)):=⟨fun h=>by unfold Q7t; rw [h],fun x l h=>by unfold Q7t; rw [h]⟩
   have KO:=Qa ko
   have KW:=Qa kw
   have KW2:=Qa kw2
   clear ko kw kw2
   have hol:=Q3w z n 5
   generalize ofP z n 5=Q at *
   generalize Q7t z n=A at *
   generalize Q0c z L 0 n 5=M at *
   go_enter Tryz.func185,Tryz.ntmps185
   go_wp2_with fail
   refine (Q6 KO).mono ?_
   rintro e w1 ⟨a,c,rfl,o1,b1⟩
   obtain ⟨hr,hc⟩:=Q18 o1
   have HRec:=Qa hr
   have HS1:=Qa ((Q6 HS).below b1)
   have HF1:=Qa (AFrame.of_below (N:=N) b1)
   clear hr o1 b1 KO HS
   go_wp2_with fail
   refine (Q6 KW _ (Q6 HS1)).mono ?_
   rintro e w2 ⟨rfl,hS2,hF2⟩
   have HS2:=Qa hS2
   have HF2:=Qa ((Q6 HF1).trans hF2)
   have HRec2:=Qa ((Q6 HRec).frame hF2)
   clear hS2 hF2 HRec HF1 HS1 KW
   cases Q with
   | nil =>
    have hA:=(Q6 HA).1 rfl
    subst hA
    clear HA
    go_wp2_with fail
    refine (Q6 KW2 _ _ (Q6 HS2)).mono ?_
    rintro e w3 ⟨rfl,hS3,hF3⟩
    have HS3:=Qa hS3
    have HF3:=Qa ((Q6 HF2).trans hF3)
    clear hS3 hF3
    go_wp2_with fail
    go_end0
    exact ⟨rfl,Q6 HS3,Q6 HF3⟩
   | cons x l =>
    have hA:=(Q6 HA).2 x l rfl
    subst hA
    clear HA
    obtain ⟨b,o,rfl,hb,x0,x1,x2,x3,x4⟩:=Q2R (Q6 HRec2).row 0 (by simp)
    have hpos:0 < (x :: l).length:=by simp
    simp only [Nat.zero_mul,Nat.add_zero,List.getElem_cons_zero] at x0 x1 x2 x3 x4
    obtain ⟨dd,hdd⟩:∃ dd,x.data=dd:=⟨_,rfl⟩
    rw [hdd] at x4
    have HDD:=Qa hdd
    clear hdd
    generalize (x :: l).length=nq at *
    go_wp2_with fail
    refine (Q6 KW2 _ _ (Q6 HS2)).mono ?_
    rintro e w3 ⟨rfl,hS3,hF3⟩
    have HS3:=Qa hS3
    have HF3:=Qa ((Q6 HF2).trans hF3)
    clear hS3 hF3
    go_wp2_with fail
    go_end0
    exact ⟨rfl,by rw [Q6 HDD]; exact Q6 HS3,Q6 HF3⟩
theorem QbH {z:List RI} {node:ByteArray} {i:Nat} (h:i < z.length) (hh:Q2e node z[i]=true):Q1Q z node i=i:=by
 unfold Q1Q
 rw [List.drop_eq_getElem_cons h,List.takeWhile_cons_of_neg (by simp [hh])]
 rfl
theorem QfV {z:List RI} {node:ByteArray} {i:Nat} (h:i < z.length) (hh:Q2e node z[i]=false):Q1Q z node i=Q1Q z node (i+1):=by
 unfold Q1Q
 rw [List.drop_eq_getElem_cons h,List.takeWhile_cons_of_pos (by simp [hh]),List.length_cons]
 omega
theorem Qj7 {z:List RI} {node:ByteArray} {i:Nat} (h:z.length≤i):Q1Q z node i=i:=by
 unfold Q1Q
 rw [List.drop_eq_nil_of_le h]
 rfl
theorem QfW {z:List RI} {node:ByteArray} {i:Nat} (h:i≤z.length):i≤Q1Q z node i∧Q1Q z node i≤z.length:=by
 unfold Q1Q
 have:=(List.takeWhile_sublist (fun x=>!Q2e node x) (l:=z.drop i)).length_le
 rw [List.length_drop] at this
 omega
theorem Q4u (z sv:List RI) (L:List ST) (j:Nat) (h:j < sv.length) :
  (∀ h2:Q1Q z (Q0q sv[j].data) (Q0a z sv L j).1 < z.length,Q0a z sv L (j+1)=(Q1Q z (Q0q sv[j].data) (Q0a z sv L j).1,(Q0a z sv L j).2++[⟨2,z[Q1Q z (Q0q sv[j].data) (Q0a z sv L j).1].ty,[z[Q1Q z (Q0q sv[j].data) (Q0a z sv L j).1]]⟩])) ∧
  (z.length≤Q1Q z (Q0q sv[j].data) (Q0a z sv L j).1→Q0a z sv L (j+1)=(Q1Q z (Q0q sv[j].data) (Q0a z sv L j).1,(Q0a z sv L j).2)):=by
 refine ⟨fun h2=>?_,fun h2=>?_⟩
 ·conv=>lhs; unfold Q0a
  rw [List.getElem?_eq_getElem h]
  simp only
  rw [List.getElem?_eq_getElem h2]
 ·conv=>lhs; unfold Q0a
  rw [List.getElem?_eq_getElem h]
  simp only
  rw [List.getElem?_eq_none h2]
theorem Q9I (z sv:List RI) (L:List ST):∀ j,(Q0a z sv L j).1≤z.length∧(Q0a z sv L j).2.length≤L.length+j
 | 0=>⟨Nat.zero_le _,Nat.le_refl _⟩
 | j+1=>by
  obtain ⟨i1,i2⟩:=Q9I z sv L j
  rcases Nat.lt_or_ge j sv.length with h | h
  ·obtain ⟨s1,s2⟩:=Q4u z sv L j h
   have hs:=(QfW (node:=Q0q sv[j].data) i1).2
   rcases Nat.lt_or_ge (Q1Q z (Q0q sv[j].data) (Q0a z sv L j).1) z.length with k | k
   ·rw [s1 k]
    refine ⟨hs,?_⟩
    simp only [List.length_append,List.length_cons,List.length_nil]
    omega
   ·rw [s2 k]
    exact ⟨hs,by simp only; omega⟩
  ·have e:Q0a z sv L (j+1)=Q0a z sv L j:=by
    conv=>lhs; unfold Q0a
    rw [List.getElem?_eq_none h]
   rw [e]
   exact ⟨i1,by omega⟩
theorem QeW {w:World} {B:Nat} {x:RI} (h:w.heap[B]? = some (.cells #[.string x.name,.int .i64 x.ty,.int .i64 x.cl,.int .i64 x.ttl,.string x.data] 61 (0,0))):RecRow w (some ⟨B,0,none⟩) [x]:=by
 intro _
 refine ⟨B,0,_,rfl,h,fun j u hu=>?_⟩
 rw [Nat.zero_add]
 have e:rcI [x]=[.string x.name,.int .i64 x.ty,.int .i64 x.cl,.int .i64 x.ttl,.string x.data]:=rfl
 rw [e] at hu
 rw [←hu]
 simp
set_option maxRecDepth 100000 in
set_option maxHeartbeats 4000000 in
theorem QdY (N S:Nat) (az:Option Addr) (cz:Nat) (z:List RI) (L:List ST) (w:World) (h:Sr w N S az cz z L) (hz:z.length≤33554432) (hL:L.length≤33554432) (hsv:(Q0r L).length≤33554432) (hsz:Q6o (Q0r L)) :
  Calls Tryz.prog 187 #[.pointer (some ⟨S,0,none⟩)] w fun e w'=>e=.returned (.tuple #[])∧Sr w' N S az cz z (Q60 z L)∧AFrame N w w':=by
 have ks:=Qfa N S az cz z L w h (by omega)
 have KS:=Qa ks
 have HS:=Qa h
 have hR:Q60 z L=(Q0a z (Q0r L) L (Q0r L).length).2:=rfl
 rw [hR]
 clear ks h hR
 generalize Q0r L=sv at *
 have HStep:=Qa (Q4u z sv L)
 have HLe:=Qa (Q9I z sv L)
 have HZ:Hid (Q0a z sv L 0=(0,L)):=rfl
 have HSz:=Qa hsz
 clear hsz
 go_enter Tryz.func187,Tryz.ntmps187
 go_wp2_with fail
 refine (Q6 KS).mono ?_
 rintro e w' ⟨a,c,rfl,hr,hc,hw'⟩
 have hw2:=hw'.symm
 subst hw2
 clear hw'
 have HRec:=Qa hr
 clear hr KS
 go_wp2_with fail
 go_loopg [3,4] (sv.length+1) (fun g va vi w'=>∃ (j k:Nat),vi=.int .i64 j∧va=.int .i64 k∧j≤sv.length∧g=sv.length+1 - j∧Hid ((Q0a z sv L j).1=k)∧Hid (Sr w' N S az cz z (Q0a z sv L j).2)∧Hid (AFrame N w w'))
 case atStart=>exact ⟨0,0,rfl,rfl,Nat.zero_le _,rfl,Qa rfl,Qa (by rw [Q6 HZ]; exact Q6 HS),Qa (AFrame.refl _ _)⟩
 case round =>
  obtain ⟨j,k,rfl,rfl,hj,rfl,Hk,HSr,HF⟩:=hrel
  by_cases cj:j < sv.length
  ·obtain ⟨b,o,rfl,hb,x0,x1,x2,x3,x4⟩:=Q2R ((Q6 HRec).frame (Q6 HF)).row j cj
   obtain ⟨st1,st2⟩:=Q6 HStep j cj
   obtain ⟨le1,le2⟩:=Q6 HLe j
   have hszj:=(Q6 HSz _ (List.getElem_mem cj)).2
   rw [Q6 Hk] at st1 st2 le1
   generalize hd:sv[j].data=dd at *
   clear hd
   generalize (Q0a z sv L j).2=Q at *
   have kt:=Qjp dd wr hszj
   generalize Q0q dd=node at *
   have hsk:=(QfW (z:=z) (node:=node) le1).2
   have HSk:Hid (Q1Q z node k=Q1Q z node k):=rfl
   generalize hK:Q1Q z node k=K at st1 st2 hsk
   have HK:=Qa hK
   have ST1:=Qa st1
   have ST2:=Qa st2
   have KT:=Qa kt
   clear hK st1 st2 kt HSk
   go_wp2_with fail
   refine (Q6 KT).mono ?_
   rintro e w' ⟨rfl,hw'⟩
   have hw2:=hw'.symm
   subst hw2
   clear KT hw'
   go_wp2_with fail
   go_loopg [3] (z.length+1 - k) (fun g va w'=>∃ (i:Nat),va=.int .i64 i∧i≤z.length∧g=z.length+1 - i∧Hid (Q1Q z node i=K)∧Hid (Below wr.heap.size wr w'))
   case atStart=>exact ⟨k,rfl,le1,rfl,HK,Qa (Below.refl _ _)⟩
   case round =>
    obtain ⟨i,rfl,hi,rfl,HKi,HBi⟩:=hrel
    have hSi:=(Q6 HSr).below (Q6 HBi)
    obtain ⟨a2,c2,c0,c1,f0,f1,hz0,_⟩:=hSi.get
    have hltS:=hSi.lt.2
    have HSi:=Qa hSi
    have HFi:=Qa ((Q6 HF).trans (AFrame.of_below (N:=N) (Q6 HBi)))
    clear hSi
    by_cases ci:i < z.length
    ·obtain ⟨b2,o2,rfl,hb2,y0,y1,y2,y3,y4⟩:=Q2R hz0.row i ci
     obtain ⟨x,hx⟩:∃ x,z[i]=x:=⟨_,rfl⟩
     rw [hx] at y0 y1 y2 y3 y4
     have hgo:Q2e node x=false→Q1Q z node (i+1)=K:=fun e=>by rw [←QfV ci (by rw [hx]; exact e)]; exact Q6 HKi
     have hst:Q2e node x=true→i=K:=fun e=>by rw [←Q6 HKi]; exact (QbH ci (by rw [hx]; exact e)).symm
     have kh:=Qit x node wr
     have HGo:=Qa hgo
     have HSt:=Qa hst
     have Hx:=Qa hx
     clear hgo hst hx hz0
     cases hq:Q2e node x with
     | false =>
      rw [hq] at kh HGo
      have KH:=Qa kh
      have HG2:=Qa (Q6 HGo rfl)
      clear kh hq HGo HSt
      go_wp2_with fail
      refine (Q6 KH).mono ?_
      rintro e w2 ⟨rfl,hbw⟩
      have HB2:=Qa ((Q6 HBi).trans (hbw.mono (Q6 HBi).size))
      clear hbw
      go_wp2_with fail
      go_roundg (z.length+1 - (i+1))
      case measure=>omega
      case rel=>exact ⟨i+1,by go_num,by omega,rfl,HG2,HB2⟩
     | true =>
      rw [hq] at kh HSt
      have KH:=Qa kh
      have hiK:=Q6 HSt rfl
      subst hiK
      have hfin:=Q6 ST1 ci
      rw [Q6 Hx] at hfin
      have HFin:=Qa hfin
      clear kh hq HGo HSt hfin ST1 ST2
      go_wp2_with fail
      refine (Q6 KH).mono ?_
      rintro e w2 ⟨rfl,hbw⟩
      have hS2:=(Q6 HSi).below hbw
      obtain ⟨a3,c3,d0,d1,g0,g1,hz2,_⟩:=hS2.get
      have hltS2:=hS2.lt.2
      have z0:=(hbw.cell (p:=⟨b2,o2+i * 5,none⟩) hb2).trans y0
      have z1:=(hbw.cell (p:=⟨b2,o2+i * 5+1,none⟩) hb2).trans y1
      have z2:=(hbw.cell (p:=⟨b2,o2+i * 5+2,none⟩) hb2).trans y2
      have z3:=(hbw.cell (p:=⟨b2,o2+i * 5+3,none⟩) hb2).trans y3
      have z4:=(hbw.cell (p:=⟨b2,o2+i * 5+4,none⟩) hb2).trans y4
      have hb3:b2 < w2.heap.size:=Nat.lt_of_lt_of_le hb2 hbw.size
      have HS2:=Qa hS2
      have HF2:=Qa ((Q6 HFi).trans (AFrame.of_below (N:=N) hbw))
      clear hS2 hz2 hbw y0 y1 y2 y3 y4 KH HSi HFi
      have hA:Below w2.heap.size w2 ((w2.alloc (.cells #[.string x.name,.int .i64 x.ty,.int .i64 x.cl,.int .i64 x.ttl,.string x.data] 61)).alloc (.cells #[.string x.name,.int .i64 x.ty,.int .i64 x.cl,.int .i64 x.ttl,.string x.data] 61)):=((Below.refl _ _).alloc (Nat.le_refl _) _).alloc (by simp) _
      have hsA:(w2.alloc (.cells #[.string x.name,.int .i64 x.ty,.int .i64 x.cl,.int .i64 x.ttl,.string x.data] 61)).heap.size=w2.heap.size+1:=by simp
      have hnew:=heap_alloc_new (w2.alloc (.cells #[.string x.name,.int .i64 x.ty,.int .i64 x.cl,.int .i64 x.ttl,.string x.data] 61)) (.cells #[.string x.name,.int .i64 x.ty,.int .i64 x.cl,.int .i64 x.ttl,.string x.data] 61)
      rw [hsA] at hnew
      have hS4:=(Q6 HS2).below hA
      have ka:=Qcw N S (some ⟨b2,o2,none⟩) cz z Q ⟨2,x.ty,[x]⟩ (some ⟨w2.heap.size+1,0,none⟩) 1 _ hS4 (QeW hnew) (Nat.le_refl _) (by omega)
      have HF4:=Qa ((Q6 HF2).trans (AFrame.of_below (N:=N) hA))
      have KA:=Qa ka
      clear hA hsA hnew hS4 ka
      go_wp2_with fail
      refine (Q6 KA).mono ?_
      rintro e w3 ⟨rfl,hS3,hF3⟩
      have HS3:=Qa hS3
      have HF3:=Qa ((Q6 HF4).trans hF3)
      clear hS3 hF3
      go_wp2_with fail
      go_roundg (sv.length+1 - (j+1))
      case measure=>omega
      case rel=>exact ⟨j+1,i,by go_num,rfl,by omega,rfl,Qa (by rw [Q6 HFin]),Qa (by rw [Q6 HFin]; exact Q6 HS3),HF3⟩
    ·have hiK:i=K:=by rw [←Q6 HKi]; exact (Qj7 (by omega)).symm
     subst hiK
     have hfin:=Q6 ST2 (by omega)
     have HFin:=Qa hfin
     clear hfin ST1 ST2 hz0
     go_wp2_with fail
     go_roundg (sv.length+1 - (j+1))
     case measure=>omega
     case rel=>exact ⟨j+1,i,by go_num,rfl,by omega,rfl,Qa (by rw [Q6 HFin]),Qa (by rw [Q6 HFin]; exact Q6 HSi),HFi⟩
  ·have ej:j=sv.length:=by omega
   subst ej
   go_wp2_with fail
   go_end0
   exact ⟨rfl,Q6 HSr,Q6 HF⟩
def SubZ (z:List RI) (L:List ST):Prop:=∀ s,s∈L→s.l≠[]∧s.part≤2∧s.l.length≤z.length∧∀ x,x∈s.l→x∈z
theorem SubZ.nil (z:List RI):SubZ z []:=fun s hs=>by cases hs
theorem SubZ.want {z:List RI} {L:List ST} (h:SubZ z L) (p:Nat) (hp:p≤2) (n:ByteArray) (t:Int):SubZ z (Q0c z L p n t):=by
 unfold Q0c
 split
 ·exact h
 ·next hne =>
  intro s hs
  rcases List.mem_append.1 hs with k | k
  ·exact h s k
  ·rw [List.mem_singleton] at k
   subst k
   exact ⟨hne,hp,Q3w z n t,fun x hx=>(List.mem_filter.1 hx).1⟩
theorem SubZ.all {z:List RI} {L:List ST} (h:SubZ z L) (n:ByteArray):∀ j,SubZ z (Q0f z n L j)
 | 0=>h
 | j+1=>by
  have ih:=SubZ.all h n j
  rcases Nat.lt_or_ge j z.length with k | k
  ·rw [Q26 z n L j k]
   split
   ·exact ih.want 0 (by omega) n _
   ·exact ih
  ·show SubZ z (match z[j]? with | none=>_ | some x=>_:List ST)
   rw [List.getElem?_eq_none k]
   exact ih
theorem SubZ.answ {z:List RI} {L:List ST} (h:SubZ z L) (n:ByteArray) (t:Int):SubZ z (Q0w z L n t):=by
 unfold Q0w
 split
 ·exact h.all n _
 ·split
  ·exact h.want 0 (by omega) n 5
  ·exact (h.want 0 (by omega) n 5).want 0 (by omega) _ t
theorem SubZ.main (z:List RI) (n:ByteArray) (t:Int):SubZ z (Q1z z n t):=by
 unfold Q1z Qb1
 split
 ·exact (SubZ.nil z).answ n t
 ·exact ((SubZ.nil z).answ n t).want 1 (by omega) _ 6
theorem SubZ.services {z:List RI} {L:List ST} (h:SubZ z L):(Q0r L).length≤z.length∧∀ x,x∈Q0r L→x∈z:=by
 unfold Q0r
 split
 ·exact ⟨Nat.zero_le _,fun x hx=>by cases hx⟩
 ·next s hs =>
  have:=h s (List.mem_of_find?_eq_some hs)
  exact ⟨this.2.2.1,this.2.2.2⟩
theorem Qcz (z:List RI) (n:ByteArray) (t:Int):(Q0w z [] n t).length≤z.length+2:=by
 unfold Q0w
 split
 ·have:=Q5I z n [] z.length
  simp only [List.length_nil] at this
  omega
 ·split
  ·have:=Q24 z [] 0 n 5
   simp only [List.length_nil] at this
   omega
  ·have h1:=Q24 z [] 0 n 5
   have h2:=Q24 z (Q0c z [] 0 n 5) 0 (Q7t z n) t
   simp only [List.length_nil] at h1
   omega
theorem Qd0 (z:List RI) (n:ByteArray) (t:Int):(Q1z z n t).length≤z.length+3:=by
 have h1:=Qcz z n t
 unfold Q1z Qb1
 split
 ·omega
 ·have:=Q24 z (Q0w z [] n t) 1 Qm 6
  omega
set_option maxRecDepth 100000 in
set_option maxHeartbeats 2000000 in
theorem Qmp (N S:Nat) (az:Option Addr) (cz:Nat) (z:List RI) (n:ByteArray) (t:Int) (w:World) (h:Sr w N S az cz z []) (hz:z.length≤16777216) (hsz:Q6o z) :
  Calls Tryz.prog 166 #[.pointer (some ⟨S,0,none⟩),.string n,.int .i64 t] w fun e w'=>e=.returned (.int .i64 (Q3B z n:Nat))∧Sr w' N S az cz z (Q2m z n t)∧AFrame N w w':=by
 have kh:=Qme N S az cz z [] n w h (by omega) hsz
 have KH:=Qa kh
 have HS:=Qa h
 clear kh h
 cases hq:Q5Y z n with
 | false =>
  have e1:Q3B z n=3:=by unfold Q3B; rw [hq]; rfl
  have e2:Q2m z n t=Q0c z [] 1 Qm 6:=by unfold Q2m; rw [hq]; rfl
  rw [hq] at KH
  rw [e1,e2]
  have kw:=Q8C N S az cz z [] 1 Qm 6 w (Q6 HS) (by omega) (by simp)
  have KW:=Qa kw
  clear kw e1 e2 hq
  generalize Q0c z [] 1 Qm 6=M at *
  go_enter Tryz.func166,Tryz.ntmps166
  go_wp2_with fail
  refine (Q6 KH).mono ?_
  rintro e w' ⟨rfl,rfl⟩
  go_wp2_with fail
  refine (Q6 KW).mono ?_
  rintro e w2 ⟨rfl,hS2,hF2⟩
  have HS2:=Qa hS2
  have HF2:=Qa hF2
  clear hS2 hF2
  go_wp2_with fail
  go_ret
  exact ⟨rfl,Q6 HS2,Q6 HF2⟩
 | true =>
  have e1:Q3B z n=0:=by unfold Q3B; rw [hq]; rfl
  have e2:Q2m z n t=Q60 z (Q1z z n t):=by unfold Q2m; rw [hq]; rfl
  rw [hq] at KH
  rw [e1,e2]
  have hal:=Qcz z n t
  have hml:=Qd0 z n t
  have hsv:=(SubZ.main z n t).services
  have ka:=Qb4 N S az cz z [] n t w (Q6 HS) (by simp; omega)
  have kn:=fun (W:World) (h:Sr W N S az cz z (Q0w z [] n t))=>Qgr N S az cz z (Q0w z [] n t) t W h (by omega)
  have kw:=fun (W:World) (h:Sr W N S az cz z (Q0w z [] n t))=>Q8C N S az cz z (Q0w z [] n t) 1 Qm 6 W h (by omega) (by omega)
  have kho:=fun (W:World) (h:Sr W N S az cz z (Q1z z n t))=>QdY N S az cz z (Q1z z n t) W h (by omega) (by omega) (by omega) (fun x hx=>hsz x (hsv.2 x hx))
  have HM:Hid ((Q1K (Q0w z [] n t) t=true→Q1z z n t=Q0w z [] n t)∧(Q1K (Q0w z [] n t) t=false→Q1z z n t=Q0c z (Q0w z [] n t) 1 Qm 6)):=⟨fun h=>by unfold Q1z; rw [h]; rfl,fun h=>by unfold Q1z; rw [h]; rfl⟩
  have KA:=Qa ka
  have KN:=Qa kn
  have KW:=Qa kw
  have KHo:=Qa kho
  clear ka kn kw kho e1 e2 hq hsv hal hml
  generalize Q60 z (Q1z z n t)=R at *
  generalize Q1z z n t=M at *
  generalize Q0w z [] n t=A at *
  go_enter Tryz.func166,Tryz.ntmps166
  go_wp2_with fail
  refine (Q6 KH).mono ?_
  rintro e w' ⟨rfl,rfl⟩
  go_wp2_with fail
  refine (Q6 KA).mono ?_
  rintro e w2 ⟨rfl,hS2,hF2⟩
  have kn2:=Q6 KN _ hS2
  have HS2:=Qa hS2
  have HF2:=Qa hF2
  clear hS2 hF2
  cases hb:Q1K A t with
  | true =>
   have hM:=(Q6 HM).1 hb
   subst hM
   rw [hb] at kn2
   have KN2:=Qa kn2
   clear kn2 HM
   go_wp2_with fail
   refine (Q6 KN2).mono ?_
   rintro e w' ⟨rfl,rfl⟩
   go_wp2_with fail
   refine (Q6 KHo _ (Q6 HS2)).mono ?_
   rintro e w3 ⟨rfl,hS3,hF3⟩
   have HS3:=Qa hS3
   have HF3:=Qa ((Q6 HF2).trans hF3)
   clear hS3 hF3
   go_wp2_with fail
   go_ret
   exact ⟨rfl,Q6 HS3,Q6 HF3⟩
  | false =>
   have hM:=(Q6 HM).2 hb
   rw [hb] at kn2
   have KN2:=Qa kn2
   have HMe:=Qa hM
   clear kn2 HM hM
   go_wp2_with fail
   refine (Q6 KN2).mono ?_
   rintro e w' ⟨rfl,rfl⟩
   go_wp2_with fail
   refine (Q6 KW _ (Q6 HS2)).mono ?_
   rintro e w3 ⟨rfl,hS3,hF3⟩
   rw [←Q6 HMe] at hS3
   have HS3:=Qa hS3
   have HF3:=Qa ((Q6 HF2).trans hF3)
   clear hS3 hF3
   go_wp2_with fail
   refine (Q6 KHo _ (Q6 HS3)).mono ?_
   rintro e w4 ⟨rfl,hS4,hF4⟩
   have HS4:=Qa hS4
   have HF4:=Qa ((Q6 HF3).trans hF4)
   clear hS4 hF4
   go_wp2_with fail
   go_ret
   exact ⟨rfl,Q6 HS4,Q6 HF4⟩
end Go.Proofs.YtdhobdmhnocbgabGreatDoor
