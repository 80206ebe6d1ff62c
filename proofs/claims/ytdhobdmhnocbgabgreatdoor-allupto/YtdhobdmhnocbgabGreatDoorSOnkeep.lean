import Derived.Test.YtdhobdmhnocbgabGreatDoorSItoa
import Derived.Deep.AppendSrc
import Derived.Deep.AppendLies
import Derived.Laws.IdiomStrings
import Derived.Test.YtdhobdmhnocbgabGreatDoorSMsgs
import Derived.Test.YtdhobdmhnocbgabGreatDoorSMwC
import Derived.Test.YtdhobdmhnocbgabGreatDoorSMeC
import Derived.Test.YtdhobdmhnocbgabGreatDoorSRefD
import Derived.Deep.LoopGhost
import Derived.Deep.DeepCutAuto
namespace Go.Proofs.YtdhobdmhnocbgabGreatDoor
open Go.RowKit
section
variable {P:Program} (w:World)
theorem Q31 (t tx ty e:TypeId) (i:TypeInfo) (ht:P.underlying t=some (.slice e)) (hi:P.info? e=some i) (g sLen sCap:Nat) (cur:Array Value) (hg:w.heap[g]? = some (.cells cur e (0,0))) (x:Value) (n:Nat) (news:List Value) (hs:Src P i.size tx x n news w)
  (hroom:sLen+n≤sCap) (hfit:sLen * i.size+news.length≤cur.size) :
  (Builtin.append_ #[t,tx] ty #[.slice (some ⟨g,0,none⟩) sLen sCap,x]).run P w=.ok (.slice (some ⟨g,0,none⟩) (sLen+n) sCap) (w.setRow g (cur.toList.take (sLen * i.size)++news++cur.toList.drop (sLen * i.size+news.length)).toArray):=by
 have hst:=run_storeCells_at (P:=P) g (sLen * i.size) e news 0 cur w hg (by simpa using hfit) hs.one
 simp only [Nat.add_zero] at hst
 rcases hs.kind with ⟨e',hk⟩ | hk <;> simp [Builtin.append_,run_underlying ht,run_underlying hk,sizeOf,typeInfo,hi,hs.len,hroom,hs.cells,Addr.add_lit,hst]
theorem Q3z (base:Nat) (t tx ty e:TypeId) (i:TypeInfo) (z:Value) (size bytes:Nat) (ht:P.underlying t=some (.slice e)) (hi:P.info? e=some i) (hz:i.zero=some z)
  (hsize:i.size=size) (hby:i.bytes=bytes) (hzs:z.cells.size=size) (v:Value) (n:Nat) (xs:List Value) (hown:w.ownsRow base e size v n xs)
  (x:Value) (m:Nat) (news:List Value) (hs:Src P size tx x m news w)
  (h63:n+m≤maxLen) (hbytes:(n+m) * bytes≤140737488355328) (hbase:base≤w.heap.size) :
  ∃ v' w',(Builtin.append_ #[t,tx] ty #[v,x]).run P w=.ok v' w'∧w'.ownsRow base e size v' (n+m) (xs++news)∧w.grownBy w' v.ownBlock∧(v'.ownBlock=v.ownBlock∨v'.ownBlock=some w.heap.size):=by
 subst hsize
 subst hby
 have hsmall:n+m≤9223372036854775807:=by simp only [maxLen] at h63; omega
 have hlen:(xs++news).length=(n+m) * i.size:=by rw [List.length_append,hown.1,hs.newsLen,Nat.add_mul]
 have grown:∀ (old:Nat),old < n+m→∀ (row:Option Nat),
   (w.drew.alloc (.cells ((xs++news).toArray++Builtin.zeroCells z.cells (grownCap w (n+m) old e - (n+m))) e)).ownsRow base e i.size
    (.slice (some ⟨w.heap.size,0,none⟩) (n+m) (grownCap w (n+m) old e)) (n+m) (xs++news) ∧
   w.grownBy (w.drew.alloc (.cells ((xs++news).toArray++Builtin.zeroCells z.cells (grownCap w (n+m) old e - (n+m))) e)) row:=by
  intro old ho row
  have hge:=grownCap_ge w (n+m) old e
  have hcm:grownCap w (n+m) old e≤maxLen:=grownCap_le_maxLen w (n+m) old e h63
  refine ⟨⟨hlen,.inr ⟨w.heap.size,_,_,rfl,hbase,heap_alloc_new w.drew _,hge,hcm,?_,?_⟩⟩,⟨rfl,rfl,rfl,by simp,fun k hk _=>heap_alloc_old w.drew _ hk⟩⟩
  ·simp only [Array.size_append,List.size_toArray,size_zeroCells,hzs,hlen,←Nat.add_mul]
   congr 1
   omega
  ·simp only [Array.toList_append]
   rw [←hlen]
   exact List.take_left
 rcases hown.2 with ⟨rfl,rfl⟩ | ⟨g,cap,cur,rfl,hbg,hg,hnc,hcm,hcs,htake⟩
 ·have hx:xs=[]:=List.eq_nil_of_length_eq_zero (by simpa using hown.1)
  subst hx
  by_cases hm:m=0
  ·subst hm
   have hn:news=[]:=List.eq_nil_of_length_eq_zero (by simpa using hs.newsLen)
   subst hn
   refine ⟨.slice none 0 0,w,?_,World.ownsRow_nil w base e i.size,⟨rfl,rfl,rfl,Nat.le_refl _,fun _ _ _=>rfl⟩,Or.inl rfl⟩
   rcases hs.kind with ⟨e',hk⟩ | hk <;> simp [Builtin.append_,run_underlying ht,run_underlying hk,sizeOf,typeInfo,hi,hs.len,hs.cells]
  ·have hr:=run_append_grow_src (P:=P) w t tx ty e i z ht hi hz none 0 0 [] (run_firstCells_none w.drew i.size 0 0 0) x m news hs (by omega) (by omega) (growslice_fits (by omega) hbytes)
   have hgr:=grown 0 (by omega) (Value.ownBlock (.slice none 0 0))
   simp only [Nat.zero_add,List.nil_append] at hgr hr ⊢
   exact ⟨_,_,hr,hgr.1,hgr.2,Or.inr rfl⟩
 ·by_cases hroom:n+m≤cap
  ·have hfit:n * i.size+news.length≤cur.size:=by rw [hs.newsLen,hcs,←Nat.add_mul]; exact Nat.mul_le_mul_right _ hroom
   have hr:=Q31 (P:=P) w t tx ty e i ht hi g n cap cur hg x m news hs hroom hfit
   refine ⟨_,_,hr,⟨hlen,.inr ⟨g,cap,_,rfl,hbg,setRow_heap w g cur _ e _ hg,hroom,hcm,?_,?_⟩⟩,⟨rfl,rfl,rfl,by simp,fun k _ hk=>setRow_other w g k _ (fun e=>hk (by simp [Value.ownBlock,e]))⟩,Or.inl rfl⟩
   ·simp only [List.size_toArray,List.length_append,List.length_take,List.length_drop,Array.length_toList]
    omega
   ·rw [htake,←hlen]
    exact List.take_left
  ·have holds:∀ j u,xs[j]? = some u→w.cell? ((⟨g,0,none⟩:Addr).add j)=some u:=hown.cells (g:=g) rfl
   have hold:=run_firstCells_some (P:=P) w.drew i.size n ⟨g,0,none⟩ n cap xs hown.1 (by simpa using holds)
   have hr:=run_append_grow_src (P:=P) w t tx ty e i z ht hi hz (some ⟨g,0,none⟩) n cap xs hold x m news hs (by omega) (by omega) (growslice_fits (by omega) hbytes)
   have hgr:=grown cap (by omega) (Value.ownBlock (.slice (some ⟨g,0,none⟩) n cap))
   exact ⟨_,_,hr,hgr.1,hgr.2,Or.inr rfl⟩
theorem Qe {ops:Array Oper} {rest:List Oper} {o:Oper} {a:Act} {Q:Exit→Act→World→Prop} (hgd:o.guard=none) (s x:Operand) (t tx:TypeId)
  (ho:o.op=.call { callee:=.builtin .append,args:=#[s,x],argTypes:=#[t,tx] })
  (base:Nat) (e:TypeId) (i:TypeInfo) (z:Value) (size bytes:Nat) (ht:P.underlying t=some (.slice e)) (hi:P.info? e=some i) (hz:i.zero=some z)
  (hsize:i.size=size) (hby:i.bytes=bytes) (hzs:z.cells.size=size)
  (v:Value) (n:Nat) (xs:List Value) (hs:a.eval s=v) (hown:w.ownsRow base e size v n xs)
  (y:Value) (m:Nat) (news:List Value) (hx:a.eval x=y) (hsrc:Src P size tx y m news w)
  (h63:n+m≤maxLen) (hbytes:(n+m) * bytes≤140737488355328) (hbase:base≤w.heap.size)
  (h:∀ a' c' w',w'.ownsRow base e size (.slice a' (n+m) c') (n+m) (xs++news)→w.grownBy w' v.ownBlock→((Value.slice a' (n+m) c').ownBlock=v.ownBlock∨(Value.slice a' (n+m) c').ownBlock=some w.heap.size)→wpList P ops Q rest (a.put o.dst (.slice a' (n+m) c')) w'):wpList P ops Q (o :: rest) a w:=by
 refine wpList_plain hgd fun K hK=>?_
 obtain ⟨v',w',hr,h2,h3,h4⟩:=Q3z (P:=P) w base t tx o.type e i z size bytes ht hi hz hsize hby hzs v n xs hown y m news hsrc h63 hbytes hbase
 unfold Oper.wp execOp
 simp only [ho,resolve,invoke,builtin,Sem.run_bind,Sem.run_pure,Result.andThen_ok,List.map_toArray,List.map_cons,List.map_nil,hs,hx,hr]
 obtain ⟨a',c',rfl⟩:∃ a' c',v'=.slice a' (n+m) c':=by
  rcases h2.2 with ⟨g1,g2⟩ | ⟨g,cap,cur,g1,g2⟩
  ·exact ⟨none,0,by rw [g1,g2]⟩
  ·exact ⟨_,_,g1⟩
 exact hK _ _ (h a' c' w' h2 h3 h4)
theorem Q1v (src dst e:TypeId) (hs:P.underlying src=some (.slice e)) (he:P.underlying e=some (.int .u8)) (hd:P.underlying dst=some .string) (base:Nat) (v:Value) (s:ByteArray) (hown:w.ownsRow base e 1 v s.size (byteCells s)) :
  (convert src dst v).run P w=.ok (.string s) w:=by
 rcases hown.2 with ⟨rfl,hz⟩ | ⟨g,cap,cur,rfl,hbg,hg,hnc,hcm,hcs,htake⟩
 ·have e0:s=⟨#[]⟩:=ByteArray.ext (Array.eq_empty_of_size_eq_zero hz)
  subst e0
  rw [run_convert_bytes_string w src dst e none 0 0 hs he hd]
  unfold Conv.bytesToString
  simp
  rfl
 ·have h1:=run_convert_bytes_back (P:=P) w src dst e ⟨g,0,none⟩ cap s.data.toList hs he hd (fun j hj=>by
   have h2:=hown.cells (g:=g) rfl j (.int .u8 (s.data.toList[j].toNat:Int)) (by unfold byteCells; rw [List.getElem?_map,List.getElem?_eq_getElem hj]; rfl)
   exact h2)
  have h3:s.data.toList.length=s.size:=by rw [Array.length_toList]; rfl
  rw [h3] at h1
  rw [h1]
end
end Go.Proofs.YtdhobdmhnocbgabGreatDoor
namespace Go.Proofs.YtdhobdmhnocbgabGreatDoor
open Go.RowKit Zr
theorem QkW (w:World) (n:Nat) (h:n < 65536):(w.alloc (.cells #[.int .u8 ((n:Int) / 256),.int .u8 ((n:Int) % 256)] 5)).ownsRow w.heap.size 5 1 (.slice (some ⟨w.heap.size,0,none⟩) 2 2) (wd n).size (byteCells (wd n)):=by
 refine ⟨rfl,.inr ⟨w.heap.size,2,_,rfl,Nat.le_refl _,heap_alloc_new _ _,Nat.le_refl _,by decide,rfl,?_⟩⟩
 have e:byteCells (wd n)=[.int .u8 (((UInt8.ofNat (n / 256)).toNat:Nat):Int),.int .u8 (((UInt8.ofNat (n % 256)).toNat:Nat):Int)]:=rfl
 rw [e,UInt8.toNat_ofNat',UInt8.toNat_ofNat']
 show [_,_]=_
 congr 2
 ·omega
 ·congr 1; omega
set_option maxRecDepth 100000 in
set_option maxHeartbeats 400000 in
theorem Q86 (n:Nat) (w:World) (h:n < 65536) :
  Calls Tryz.prog 126 #[.int .i64 n] w fun e w'=>e=.returned (.string (wd n))∧Below w.heap.size w w':=by
 go_enter Tryz.func126,Tryz.ntmps126
 go_wp2_with fail
 rw [Q1v _ 128 9 5 Tryz.underlying128 Tryz.underlying5 Tryz.underlying9 w.heap.size _ (wd n) (QkW w n h)]
 go_wp2_with fail
 go_ret
 exact ⟨rfl,(Below.refl _ _).alloc (Nat.le_refl _) _⟩
theorem Q9h (v:Int) (n:Nat) (w:World) (hv:v=(n:Int)) (h:n < 65536) :
  Calls Tryz.prog 126 #[.int .i64 v] w fun e w'=>e=.returned (.string (wd n))∧Below w.heap.size w w':=by
 subst hv
 exact Q86 n w h
set_option maxRecDepth 100000 in
set_option maxHeartbeats 400000 in
theorem QcW (n:Nat) (w:World) (h:n < 4294967296) :
  Calls Tryz.prog 129 #[.int .i64 n] w fun e w'=>e=.returned (.string (q4 n))∧Below w.heap.size w w':=by
 obtain ⟨r,hr⟩:∃ r,q4 n=r:=⟨_,rfl⟩
 rw [hr]
 have HR:=Qa hr
 clear hr
 go_enter Tryz.func129,Tryz.ntmps129
 go_wp2_with fail
 refine (Q9h _ (n / 65536) _ (by omega) (by omega)).mono ?_
 rintro e w1 ⟨rfl,hb1⟩
 obtain ⟨a,ha⟩:∃ a,wd (n / 65536)=a:=⟨_,rfl⟩
 have za:=Q00 (n / 65536)
 rw [ha] at za ⊢
 have HA:=Qa ha
 clear ha
 go_wp2_with fail
 refine (Q9h _ (n % 65536) _ (by omega) (by omega)).mono ?_
 rintro e w2 ⟨rfl,hb2⟩
 obtain ⟨b,hb⟩:∃ b,wd (n % 65536)=b:=⟨_,rfl⟩
 have zb:=Q00 (n % 65536)
 rw [hb] at zb ⊢
 have HB:=Qa hb
 clear hb
 have hz:a.size+b.size≤4:=by omega
 clear za zb
 go_wp2_with fail
 go_ret
 refine ⟨Qf4 ?_,hb1.trans (hb2.mono hb1.size)⟩
 rw [←Q6 HR,←Q6 HA,←Q6 HB]
 rfl
theorem Qkl (v:Int) (n:Nat) (w:World) (hv:v=(n:Int)) (h:n < 4294967296) :
  Calls Tryz.prog 129 #[.int .i64 v] w fun e w'=>e=.returned (.string (q4 n))∧Below w.heap.size w w':=by
 subst hv
 exact QcW n w h
theorem Tryz.info107:(Tryz.prog.info? 107).map (fun i=>(i.zero,i.size,i.bytes))=some (some (.agg #[.int .i64 0,.string ⟨#[]⟩,.int .i64 0,.string ⟨#[]⟩,.int .i64 0,.string ⟨#[]⟩,.string ⟨#[]⟩]),7,88):=by kernel_rfl
theorem Tryz.info197:(Tryz.prog.info? 197).map (fun i=>(i.zero,i.size,i.bytes))=some (some (.agg #[.string ⟨#[]⟩,.int .i64 0,.string ⟨#[]⟩,.int .i64 0,.string ⟨#[]⟩,.int .i64 0,.string ⟨#[]⟩,.string ⟨#[]⟩]),8,104):=by kernel_rfl
def ev7 (x:Ev):List Value:=[.int .i64 x.kind,.string x.node,.int .i64 x.inc,.string x.addr,.int .i64 x.port,.string x.text,.string x.alias]
def en8 (x:En):List Value:=.string x.key :: ev7 x.ev
def enC (l:List En):List Value:=l.flatMap en8
theorem Qi6 (l:List Ev):evC l=l.flatMap ev7:=rfl
theorem Qer (l m:List Ev):evC (l++m)=evC l++evC m:=by unfold evC; rw [List.flatMap_append]
theorem Q70 (l m:List En):enC (l++m)=enC l++enC m:=by unfold enC; rw [List.flatMap_append]
theorem Q3u (l:List Ev) (x:Ev):evC (l++[x])=evC l++[.int .i64 x.kind,.string x.node,.int .i64 x.inc,.string x.addr,.int .i64 x.port,.string x.text,.string x.alias]:=by rw [Qer]; rfl
theorem Q4q (l:List En) (x:En):enC (l++[x])=enC l++[.string x.key,.int .i64 x.ev.kind,.string x.ev.node,.int .i64 x.ev.inc,.string x.ev.addr,.int .i64 x.ev.port,.string x.ev.text,.string x.ev.alias]:=by rw [Q70]; rfl
theorem Q6s:∀ l:List Ev,(evC l).length=l.length * 7
 | []=>rfl
 | x :: l=>by rw [Qi6,List.flatMap_cons,List.length_append,←Qi6,Q6s l,List.length_cons]; show 7+_=_; omega
theorem Q6r:∀ l:List En,(enC l).length=l.length * 8
 | []=>rfl
 | x :: l=>by show (en8 x++enC l).length=_; rw [List.length_append,Q6r l,List.length_cons]; show 8+_=_; omega
theorem Qk9 (l:List Ev):∀ v∈evC l,v.oneCell'=true:=by
 intro v hv
 unfold evC at hv
 obtain ⟨x,_,hx⟩:=List.mem_flatMap.1 hv
 simp at hx
 rcases hx with rfl | rfl | rfl | rfl | rfl | rfl | rfl <;> rfl
theorem Q85 {α:Type} (f:α→List Value) (k:Nat) (hk:∀ x,(f x).length=k):∀ (l:List α) (i:Nat) (h:i < l.length) (j:Nat),j < k→(l.flatMap f)[i * k+j]? = (f l[i])[j]?
 | [],i,h,_,_=>by simp at h
 | x :: l,0,_,j,hj=>by
  rw [List.flatMap_cons,Nat.zero_mul,Nat.zero_add,List.getElem?_append_left (by rw [hk]; exact hj)]
  rfl
 | x :: l,i+1,h,j,hj=>by
  rw [List.flatMap_cons,List.getElem?_append_right (by rw [hk,Nat.add_mul]; omega),hk]
  have e:(i+1) * k+j - k=i * k+j:=by rw [Nat.add_mul]; omega
  rw [e,Q85 f k hk l i (by simpa using h) j hj]
  rfl
theorem Q4e (l:List Ev) (i:Nat) (h:i < l.length) (j:Nat) (hj:j < 7):(evC l)[i * 7+j]? = (ev7 l[i])[j]?:=Q85 ev7 7 (fun _=>rfl) l i h j hj
theorem Q4F (l:List En) (i:Nat) (h:i < l.length) (j:Nat) (hj:j < 8):(enC l)[i * 8+j]? = (en8 l[i])[j]?:=Q85 en8 8 (fun _=>rfl) l i h j hj
theorem Q2K {w:World} {N:Nat} {a:Option Addr} {l:List Ev} (h:RowAt w N a (evC l)) (i:Nat) (hi:i < l.length):∃ b o,a=some ⟨b,o,none⟩∧b < N ∧
  w.cell? ⟨b,o+i * 7,none⟩=some (.int .i64 l[i].kind)∧w.cell? ⟨b,o+i * 7+1,none⟩=some (.string l[i].node)∧w.cell? ⟨b,o+i * 7+2,none⟩=some (.int .i64 l[i].inc) ∧
  w.cell? ⟨b,o+i * 7+3,none⟩=some (.string l[i].addr)∧w.cell? ⟨b,o+i * 7+4,none⟩=some (.int .i64 l[i].port)∧w.cell? ⟨b,o+i * 7+5,none⟩=some (.string l[i].text)∧w.cell? ⟨b,o+i * 7+6,none⟩=some (.string l[i].alias):=by
 obtain ⟨b,o,h1,h2,h3⟩:=h (fun e=>by have:=Q6s l; rw [e] at this; simp at this; omega)
 exact ⟨b,o,h1,h2,h3 _ _ (Q4e l i hi 0 (by omega)),h3 _ _ (Q4e l i hi 1 (by omega)),h3 _ _ (Q4e l i hi 2 (by omega)),h3 _ _ (Q4e l i hi 3 (by omega)),h3 _ _ (Q4e l i hi 4 (by omega)),h3 _ _ (Q4e l i hi 5 (by omega)),h3 _ _ (Q4e l i hi 6 (by omega))⟩
theorem Qah {w:World} {N:Nat} {a:Option Addr} {l:List En} (h:RowAt w N a (enC l)) (i:Nat) (hi:i < l.length):∃ b o,a=some ⟨b,o,none⟩∧b < N ∧
  w.cell? ⟨b,o+i * 8,none⟩=some (.string l[i].key)∧w.cell? ⟨b,o+i * 8+1,none⟩=some (.int .i64 l[i].ev.kind)∧w.cell? ⟨b,o+i * 8+2,none⟩=some (.string l[i].ev.node)∧w.cell? ⟨b,o+i * 8+3,none⟩=some (.int .i64 l[i].ev.inc) ∧
  w.cell? ⟨b,o+i * 8+4,none⟩=some (.string l[i].ev.addr)∧w.cell? ⟨b,o+i * 8+5,none⟩=some (.int .i64 l[i].ev.port)∧w.cell? ⟨b,o+i * 8+6,none⟩=some (.string l[i].ev.text)∧w.cell? ⟨b,o+i * 8+7,none⟩=some (.string l[i].ev.alias):=by
 obtain ⟨b,o,h1,h2,h3⟩:=h (fun e=>by have:=Q6r l; rw [e] at this; simp at this; omega)
 exact ⟨b,o,h1,h2,h3 _ _ (Q4F l i hi 0 (by omega)),h3 _ _ (Q4F l i hi 1 (by omega)),h3 _ _ (Q4F l i hi 2 (by omega)),h3 _ _ (Q4F l i hi 3 (by omega)),h3 _ _ (Q4F l i hi 4 (by omega)),h3 _ _ (Q4F l i hi 5 (by omega)),h3 _ _ (Q4F l i hi 6 (by omega)),h3 _ _ (Q4F l i hi 7 (by omega))⟩
theorem Q0u {w:World} {N:Nat} {e:TypeId} {size:Nat} {a:Option Addr} {n c:Nat} {xs:List Value} (h:w.ownsRow N e size (.slice a n c) n xs):RowAt w w.heap.size a xs:=by
 intro hx
 have hn:0 < n:=by
  rcases Nat.eq_zero_or_pos n with h0 | h0
  ·subst h0
   exact absurd (List.eq_nil_of_length_eq_zero (by simpa using h.1)) hx
  ·exact h0
 obtain ⟨g,rfl,_,hg,_⟩:=Q23 h hn
 exact ⟨g,0,rfl,hg,fun j u hu=>by rw [Nat.zero_add]; exact Q0v h j u hu⟩
theorem Qk {w w':World} {N:Nat} {e:TypeId} {size:Nat} {v:Value} {n:Nat} {xs:List Value} (h:w.ownsRow N e size v n xs) (hb:Below w.heap.size w w'):w'.ownsRow N e size v n xs :=
 h.kept (Q1l (row:=none) hb) (by
  cases e:v.ownBlock with
  | none=>exact .inl rfl
  | some g=>exact .inr (by simp))
theorem Q3e {w:World} {N M:Nat} (h:N≤M) {e:TypeId} {size:Nat} {v:Value} {n:Nat} {xs:List Value} (ho:w.ownsRow M e size v n xs):w.ownsRow N e size v n xs:=by
 refine ⟨ho.1,?_⟩
 rcases ho.2 with hn | ⟨g,cap,cur,hv,hb,rest⟩
 ·exact .inl hn
 ·exact .inr ⟨g,cap,cur,hv,by omega,rest⟩
theorem Qn {w w':World} {M:Nat} {e:TypeId} {size:Nat} {v:Value} {n:Nat} {xs:List Value} (h:w.ownsRow M e size v n xs) (hg:w.grownBy w' v.ownBlock) (hM:M≤w.heap.size):Below M w w' :=
 ⟨hg.os,hg.tape,hg.output,hg.size,fun k hk=>hg.block k (by omega) fun he=>by have:=(h.lt k he.symm).1; omega⟩
theorem Q5N (w:World) (O:Obj) {b:Nat} (hb:b < w.heap.size) (k:Nat):(w.alloc O).cell? ⟨b,k,none⟩=w.cell? ⟨b,k,none⟩ :=
 ((Below.refl w.heap.size w).alloc (Nat.le_refl _) O).cell (p:=⟨b,k,none⟩) hb
theorem Q9G {W w2:World} {M:Nat} {e:TypeId} {size:Nat} {v:Value} {n:Nat} {xs:List Value} (h:W.ownsRow M e size v n xs) (hg:W.grownBy w2 v.ownBlock) {b:Nat} (hb:b < M) (hs:M≤W.heap.size) (k:Nat):w2.cell? ⟨b,k,none⟩=W.cell? ⟨b,k,none⟩ :=
 (Qn h hg hs).cell (p:=⟨b,k,none⟩) hb
theorem Q1x (w:World) (B:Nat) (x0 x1 x2 x3 x4 x5 x6:Value) (t:TypeId) (h:w.heap.size=B):∀ j u,[x0,x1,x2,x3,x4,x5,x6][j]? = some u→(w.alloc (.cells #[x0,x1,x2,x3,x4,x5,x6] t)).cell? ((⟨B,0,none⟩:Addr).add j)=some u:=by
 subst h
 exact World.news_of_block (cs:=#[x0,x1,x2,x3,x4,x5,x6]) (heap_alloc_new w _)
theorem Q1W (w:World) (B:Nat) (x0 x1 x2 x3 x4 x5 x6 x7:Value) (t:TypeId) (h:w.heap.size=B):∀ j u,[x0,x1,x2,x3,x4,x5,x6,x7][j]? = some u→(w.alloc (.cells #[x0,x1,x2,x3,x4,x5,x6,x7] t)).cell? ((⟨B,0,none⟩:Addr).add j)=some u:=by
 subst h
 exact World.news_of_block (cs:=#[x0,x1,x2,x3,x4,x5,x6,x7]) (heap_alloc_new w _)
theorem Qdd {x0 x2 x4:Int} {x1 x3 x5 x6:ByteArray}:∀ v∈([.int .i64 x0,.string x1,.int .i64 x2,.string x3,.int .i64 x4,.string x5,.string x6]:List Value),v.oneCell'=true:=by
 intro v hv
 simp at hv
 rcases hv with rfl | rfl | rfl | rfl | rfl | rfl | rfl <;> rfl
theorem QeJ {x0 x2 x4:Int} {k x1 x3 x5 x6:ByteArray}:∀ v∈([.string k,.int .i64 x0,.string x1,.int .i64 x2,.string x3,.int .i64 x4,.string x5,.string x6]:List Value),v.oneCell'=true:=by
 intro v hv
 simp at hv
 rcases hv with rfl | rfl | rfl | rfl | rfl | rfl | rfl | rfl <;> rfl
def Q2d (l:List Ev):Prop:=∀ i (h:i < l.length),l[i].node.size≤9223372036854775807∧l[i].addr.size≤9223372036854775807∧l[i].text.size≤9223372036854775807∧l[i].alias.size≤9223372036854775807
theorem QgF (l:List Ev) (j:Nat) (h:j < l.length):(Q2i l[j]→Q1e (l.take (j+1))=Q1e (l.take j)++[l[j]])∧(¬ Q2i l[j]→Q1e (l.take (j+1))=Q1e (l.take j)):=by
 have e:l.take (j+1)=l.take j++[l[j]]:=List.take_succ_eq_append_getElem h
 rw [e]
 unfold Q1e
 rw [List.filter_append]
 refine ⟨fun hg=>?_,fun hg=>?_⟩
 ·rw [List.filter_cons_of_pos (by simpa using hg)]; rfl
 ·rw [List.filter_cons_of_neg (by simpa using hg)]; simp
open Classical in
theorem Q9F (l:List Ev) (j:Nat):(Q1e (l.take j)).length≤j:=by
 unfold Q1e
 have:=List.length_filter_le (fun e=>decide (Q2i e)) (l.take j)
 rw [List.length_take] at this
 omega
end Go.Proofs.YtdhobdmhnocbgabGreatDoor
namespace Go.Proofs.YtdhobdmhnocbgabGreatDoor
open Go.RowKit
section
variable {P:Program} {w:World}
theorem Q6f (t tx ty e:TypeId) (i:TypeInfo) (z:Value) (ht:P.underlying t=some (.slice e)) (hi:P.info? e=some i) (hz:i.zero=some z)
  (base:Nat) (g n cap:Nat) (xs:List Value) (hown:w.ownsRow base e i.size (.slice (some ⟨g,0,none⟩) n cap) n xs)
  (x:Value) (m:Nat) (news:List Value) (hs:Src P i.size tx x m news w)
  (h63:n+m≤maxLen) (hbytes:(n+m) * i.bytes≤140737488355328) {v':Value} {w':World}
  (hr:(Builtin.append_ #[t,tx] ty #[.slice (some ⟨g,0,none⟩) n cap,x]).run P w=.ok v' w') :
  ∀ j u,xs[j]? = some u→w'.cell? ⟨g,j,none⟩=some u:=by
 have hsmall:n+m≤9223372036854775807:=by simp only [maxLen] at h63; omega
 have hlen:xs.length=n * i.size:=hown.1
 rcases hown.2 with ⟨h0,_⟩ | ⟨g',cap',cur,h0,hbg,hg,hnc,hcm,hcs,htake⟩
 ·cases h0
 ·cases h0
  intro j u hu
  have hj:j < n * i.size:=by rw [←hlen]; exact (List.getElem?_eq_some_iff.1 hu).1
  by_cases hroom:n+m≤cap
  ·have hfit:n * i.size+news.length≤cur.size:=by rw [hs.newsLen,hcs,←Nat.add_mul]; exact Nat.mul_le_mul_right _ hroom
   have hr2:=Q31 (P:=P) w t tx ty e i ht hi g n cap cur hg x m news hs hroom hfit
   rw [hr2] at hr
   cases hr
   rw [Qc (setRow_heap w g cur _ e _ hg)]
   rw [List.append_assoc,List.getElem?_toArray,htake,List.getElem?_append_left (by rw [hlen]; exact hj)]
   exact hu
  ·have holds:∀ j u,xs[j]? = some u→w.cell? ((⟨g,0,none⟩:Addr).add j)=some u:=hown.cells (g:=g) rfl
   have hold:=run_firstCells_some (P:=P) w.drew i.size n ⟨g,0,none⟩ n cap xs hown.1 (by simpa using holds)
   have hr2:=run_append_grow_src (P:=P) w t tx ty e i z ht hi hz (some ⟨g,0,none⟩) n cap xs hold x m news hs (by omega) (by omega) (growslice_fits (by omega) hbytes)
   rw [hr2] at hr
   cases hr
   have h1:=heap_alloc_old w.drew (.cells ((xs++news).toArray++Builtin.zeroCells z.cells (grownCap w (n+m) cap e - (n+m))) e) (Qb hg)
   rw [Qc (h1.trans hg),←hu,←htake,List.getElem?_take,if_pos hj]
   simp
end
end Go.Proofs.YtdhobdmhnocbgabGreatDoor
