import Derived.Test.YtdhobdmhnocbgabGreatDoorSWaP
import Derived.Test.YtdhobdmhnocbgabGreatDoorSSiW
import Derived.Test.YtdhobdmhnocbgabGreatDoorSOnkeep
namespace Go.Proofs.YtdhobdmhnocbgabGreatDoor
open Go.RowKit Zr
set_option maxRecDepth 100000 in
set_option maxHeartbeats 2000000 in
theorem Qad (s:ByteArray) (w:World) (hs:s.size≤4294967296) :
  Calls Tryz.prog 69 #[.string s] w fun e w'=>e=.returned (.string (Q1h s))∧Below w.heap.size w w':=by
 obtain ⟨N,hN⟩:∃ N,w.heap.size=N:=⟨_,rfl⟩
 rw [hN]
 go_enter Tryz.func69,Tryz.ntmps69
 go_wp2_with fail
 go_loopg [3,4] (s.size+1) (fun g vt vi w'=>∃ (j:Nat) (B:ByteArray),vi=.int .i64 j∧j≤s.size∧g=s.size+1 - j∧vt=.string B∧Hid (Q2Z s j=B)∧Hid (Below N w w')∧N≤w'.heap.size)
 case atStart=>exact ⟨0,⟨#[]⟩,rfl,Nat.zero_le _,rfl,rfl,Qa rfl,Qa (Below.refl _ _),by omega⟩
 case round =>
  obtain ⟨j,B,rfl,hj,rfl,rfl,HT,HB,hNw⟩:=hrel
  by_cases cj:j < s.size
  ·have hg:=Q10 s j cj
   have hlt:=Q20 s j
   have hT:Q2Z s (j+1)=B++one (Q5R (bt s j)):=by rw [←Q6 HT]; rfl
   have hBs:B.size=j:=by rw [←Q6 HT]; exact Q4i s j
   have HT2:=Qa hT
   clear hT
   have hcase:(bt s j < 65∧Q5R (bt s j)=bt s j)∨(90 < bt s j∧Q5R (bt s j)=bt s j)∨(65≤bt s j∧bt s j≤90∧Q5R (bt s j)=bt s j+32):=by
    unfold Q5R
    by_cases c1:bt s j < 65
    ·exact .inl ⟨c1,if_neg (by omega)⟩
    ·by_cases c2:90 < bt s j
     ·exact .inr (.inl ⟨c2,if_neg (by omega)⟩)
     ·exact .inr (.inr ⟨by omega,by omega,if_pos (by omega)⟩)
   generalize bt s j=c at *
   have h1:∀ d,(one d).size=1:=fun _=>rfl
   have hsum:∀ d,B.size+(one d).size≤9223372036854775807:=fun d=>by rw [h1]; omega
   have HBs:=Qa hBs
   rcases hcase with ⟨c1,hc⟩ | ⟨c1,hc⟩ | ⟨c1,c2,hc⟩
   all_goals
    rw [hc] at HT2
    clear hc
   ·have HO:=Qa (Q7N wr c (by omega))
    have hA:=((Q6 HB).alloc hNw (.cells #[.int .u8 (c:Nat)] 5))
    have hs2:=hsum c
    go_wp2_with fail
    rw [Q1v _ 128 9 5 Tryz.underlying128 Tryz.underlying5 Tryz.underlying9 wr.heap.size _ (one c) (Q6 HO)]
    have HA:=Qa hA
    have hs3:N≤(wr.alloc (.cells #[.int .u8 (c:Nat)] 5)).heap.size:=by simp; omega
    clear hA
    go_wp2_with fail
    go_roundg (s.size+1 - (j+1))
    case measure=>omega
    case rel=>exact ⟨j+1,_,by go_num,by omega,rfl,rfl,HT2,HA,hs3⟩
   ·have HO:=Qa (Q7N wr c (by omega))
    have hA:=((Q6 HB).alloc hNw (.cells #[.int .u8 (c:Nat)] 5))
    have hs2:=hsum c
    go_wp2_with fail
    rw [Q1v _ 128 9 5 Tryz.underlying128 Tryz.underlying5 Tryz.underlying9 wr.heap.size _ (one c) (Q6 HO)]
    have HA:=Qa hA
    have hs3:N≤(wr.alloc (.cells #[.int .u8 (c:Nat)] 5)).heap.size:=by simp; omega
    clear hA
    go_wp2_with fail
    go_roundg (s.size+1 - (j+1))
    case measure=>omega
    case rel=>exact ⟨j+1,_,by go_num,by omega,rfl,rfl,HT2,HA,hs3⟩
   ·have ho:=Q7N wr (c+32) (by omega)
    rw [show ((c+32:Nat):Int)=(c:Int)+32 by omega] at ho
    have HO:=Qa ho
    have hA:=((Q6 HB).alloc hNw (.cells #[.int .u8 ((c:Int)+32)] 5))
    have hs2:=hsum (c+32)
    clear ho
    go_wp2_with fail
    rw [Q1v _ 128 9 5 Tryz.underlying128 Tryz.underlying5 Tryz.underlying9 wr.heap.size _ (one (c+32)) (Q6 HO)]
    have HA:=Qa hA
    have hs3:N≤(wr.alloc (.cells #[.int .u8 ((c:Int)+32)] 5)).heap.size:=by simp; omega
    clear hA
    go_wp2_with fail
    go_roundg (s.size+1 - (j+1))
    case measure=>omega
    case rel=>exact ⟨j+1,_,by go_num,by omega,rfl,rfl,HT2,HA,hs3⟩
  ·have ej:j=s.size:=by omega
   subst ej
   go_wp2_with fail
   go_ret
   exact ⟨by rw [←Q6 HT]; rfl,Q6 HB⟩
theorem Q8x:(⟨#[0]⟩:ByteArray).toList=[0]:=by rw [ByteArray.toList_eq]
theorem Qi2 (s:ByteArray) (k c:Nat) (h:k+1+c≤s.size):(s.extract k s.size).extract (1+c) (s.extract k s.size).size=s.extract (k+1+c) s.size:=by
 have hz:(s.extract k s.size).size=s.size - k:=by rw [ByteArray.size_extract]; omega
 apply Q3b
 ·simp only [ByteArray.size_extract]; omega
 ·intro i hi
  simp only [ByteArray.size_extract] at hi
  rw [Q2p _ _ _ i (by omega) (Nat.le_refl _),Q2p s k _ _ (by omega) (Nat.le_refl _),Q2p s _ _ i (by omega) (Nat.le_refl _)]
  congr 1
  omega
set_option maxRecDepth 100000 in
set_option maxHeartbeats 2000000 in
theorem Q8F (s o:ByteArray) (w:World):∀ k,Tl s k →
  Calls Tryz.prog 103 #[.string (s.extract k s.size),.string o] w fun e w'=>e=.returned (.bool (Q06 s o k))∧w'=w:=by
 intro k ht
 induction ht with
 | root k h1 h2 =>
  have hx:s.extract k s.size=⟨#[0]⟩:=by
   apply Q3b
   ·rw [ByteArray.size_extract]; show _=1; omega
   ·intro i hi
    rw [ByteArray.size_extract] at hi
    have:i=0:=by omega
    subst this
    rw [Q2p s k _ 0 (by omega) (Nat.le_refl _),Nat.add_zero,h2]
    rfl
  have hw:Q06 s o k=if s.extract k s.size=o then true else false:=by
   rw [Q06,dif_pos (by omega),h2]
   have:Q06 s o (k+1+0)=false:=by rw [Q06,dif_neg (by omega)]
   rw [this]
  rw [hw,hx]
  by_cases ce:(⟨#[0]⟩:ByteArray)=o
  ·rw [if_pos ce]
   have f1:=Q1i ce
   rw [Q8x] at f1
   clear ce
   go_enter Tryz.func103,Tryz.ntmps103
   go_wp2_with fail
   go_ret
   exact ⟨rfl,rfl⟩
  ·rw [if_neg ce]
   have f1:=Q1w ce
   rw [Q8x] at f1
   clear ce
   go_enter Tryz.func103,Tryz.ntmps103
   go_wp2_with fail
   go_ret
   exact ⟨rfl,rfl⟩
 | lab k h1 h2 h3 ih =>
  have hlt:=h3.lt
  have hw:Q06 s o k=if s.extract k s.size=o then true else Q06 s o (k+1+bt s k):=by rw [Q06,dif_pos (by omega)]
  rw [hw]
  have hxs:(s.extract k s.size).size=s.size - k:=by rw [ByteArray.size_extract]; omega
  have hx0:bt (s.extract k s.size) 0=bt s k:=by rw [Q2p s k _ 0 (by omega) (Nat.le_refl _),Nat.add_zero]
  have hcut:=Qi2 s k (bt s k) (by omega)
  rw [←hcut] at ih
  obtain ⟨res,hres⟩:∃ res,Q06 s o (k+1+bt s k)=res:=⟨_,rfl⟩
  rw [hres] at ih ⊢
  have IH:=Qa ih
  clear hcut hres hw ih h3
  generalize s.extract k s.size=x at *
  by_cases ce:x=o
  ·rw [if_pos ce]
   have f1:=Q1i ce
   clear ce
   go_enter Tryz.func103,Tryz.ntmps103
   go_wp2_with fail
   go_ret
   exact ⟨rfl,rfl⟩
  ·rw [if_neg ce]
   have f1:=Q1w ce
   have hp:0 < x.size:=by omega
   have hg:=Q10 x 0 hp
   rw [hx0] at hg
   have f2:(x.toList == (⟨#[0]⟩:ByteArray).toList)=false:=Q1w fun e=>by rw [e] at hx0; have:bt (⟨#[0]⟩:ByteArray) 0=0:=rfl; omega
   rw [Q8x] at f2
   have f3:(x.toList == (⟨#[]⟩:ByteArray).toList)=false:=Q1w fun e=>by rw [e] at hp; exact absurd hp (by decide)
   have f4:x.toList.isEmpty=false:=by rw [Q1c]; exact decide_eq_false (by omega)
   have hl2:1+bt s k≤x.size:=by omega
   have hl3:bt s k < 256:=by omega
   generalize bt s k=c at *
   have q1:decide ((x.size:Int) < 1+(c:Int))=false:=decide_eq_false (by omega)
   have q2:¬ (x.size:Int) < 1+(c:Int):=by omega
   clear ce hx0 hxs
   go_enter Tryz.func103,Tryz.ntmps103
   go_wp2_with fail
   refine (Q6 IH).mono ?_
   rintro e w1 ⟨rfl,rfl⟩
   go_wp2_with fail
   go_ret
   exact ⟨rfl,rfl⟩
set_option maxRecDepth 100000 in
set_option maxHeartbeats 2000000 in
theorem Qcl (z:List RI) (n:ByteArray) (t:Int) (az:Option Addr) (cz N:Nat) (w:World) (hz0:RowAt w N az (rcI z)) (hN:N≤w.heap.size) (hl:z.length≤134217728) :
  Calls Tryz.prog 141 #[.slice az z.length cz,.string n,.int .i64 t] w fun e w'=>Q2u w (ofP z n t) e w':=by
 obtain ⟨i0,hi,hi0,hi1,hi2⟩:=info_parts Tryz.info61
 have Hi:=Qa hi
 have Hz0:=Qa hi0
 have Hz1:=Qa hi1
 have Hz2:=Qa hi2
 have HZ:=Qa hz0
 have HT:=Qa (Qa0 z n t)
 have hLen:=Q3w z n t
 have HLe:=Qa (fun j=>Q3w (z.take j) n t)
 clear hi hi0 hi1 hi2 hz0
 obtain ⟨N0,hN0⟩:∃ N0,w.heap.size=N0:=⟨_,rfl⟩
 unfold Q2u
 rw [hN0]
 rw [hN0] at hN
 go_enter Tryz.func141,Tryz.ntmps141
 go_wp2_with fail
 go_loopg [7,8] (z.length+1) (fun g vb vi w'=>∃ (j m:Nat) (ab:Option Addr) (cb:Nat),vi=.int .i64 j∧j≤z.length∧g=z.length+1 - j∧vb=.slice ab m cb∧m≤j∧Hid ((ofP (z.take j) n t).length=m)∧Hid (w'.ownsRow N0 61 5 (.slice ab m cb) m (rcI (ofP (z.take j) n t)))∧Hid (Below N0 w w')∧N0≤w'.heap.size)
 case atStart=>exact ⟨0,0,none,0,rfl,Nat.zero_le _,rfl,rfl,Nat.le_refl _,Qa rfl,Qa (World.ownsRow_nil _ _ _ _),Qa (Below.refl _ _),by omega⟩
 case round =>
  obtain ⟨j,m,ab,cb,rfl,hj,rfl,rfl,hm,Hm,HO,HB,hNw⟩:=hrel
  have hz:=(Q6 HZ).below ((Q6 HB).mono hN)
  by_cases cj:j < z.length
  ·obtain ⟨b,o,rfl,hb,x0,x1,x2,x3,x4⟩:=Q2R hz j cj
   obtain ⟨ht1,ht2⟩:=Q6 HT j cj
   generalize z[j]=x at *
   obtain ⟨n0,t0,k0,l0,d0⟩:=x
   simp only at x0 x1 x2 x3 x4 ht1 ht2
   clear hz
   by_cases cc:n0=n∧t0=t
   ·have hT2:=ht1 cc
    have f1:=Q1i cc.1
    have f2:(t0 == t)=true:=by rw [beq_iff_eq]; exact cc.2
    have HT2:=Qa hT2
    clear ht1 ht2 cc hT2
    generalize ofP (z.take j) n t=Q at *
    go_wp2_with (at_builtin; refine Qe _ rfl _ _ 27 27 rfl N0 61 i0 (.agg #[.string ⟨#[]⟩,.int .i64 0,.int .i64 0,.int .i64 0,.string ⟨#[]⟩]) 5 56 Tryz.underlying27 (Q6 Hi) (Q6 Hz0) (Q6 Hz1) (Q6 Hz2) rfl (.slice ab m cb) m (rcI Q) (by rfl) ((Q6 HO).alloc _) (.slice (some ⟨wr.heap.size,0,none⟩) 1 1) 1 [.string n0,.int .i64 t0,.int .i64 k0,.int .i64 l0,.string d0] (by rfl) (Src.ofSlice _ Tryz.underlying27 ⟨wr.heap.size,0,none⟩ 1 1 _ rfl (Q0E _ _ _ _ _ _ _ _ rfl) Qa1) (by unfold maxLen; omega) (by omega) (by simp; omega) ?_; intro a1 e1 w2 hown2 hgrow2 hat2)
    go_roundg (z.length+1 - (j+1))
    case measure=>omega
    case rel =>
     refine ⟨j+1,m+1,a1,e1,by go_num,by omega,rfl,rfl,by omega,Qa (by rw [Q6 HT2,List.length_append,Q6 Hm]; rfl),?_,Qa (((Q6 HB).alloc hNw _).trans (Qn ((Q6 HO).alloc _) hgrow2 (by simp; omega))),?_⟩
     ·rw [Q6 HT2,Q2O]; exact Qa hown2
     ·have:=hgrow2.size; simp at this; omega
   ·have hT2:=ht2 cc
    have hcase:(n0.toList == n.toList)=false∨((n0.toList == n.toList)=true∧(t0 == t)=false):=by
     by_cases q:n0=n
     ·exact .inr ⟨Q1i q,beq_eq_false_iff_ne.2 fun h=>cc ⟨q,h⟩⟩
     ·exact .inl (Q1w q)
    have HT2:=Qa hT2
    clear ht1 ht2 cc hT2
    rcases hcase with f1 | ⟨f1,f2⟩
    all_goals
     go_wp2_with fail
     go_roundg (z.length+1 - (j+1))
     case measure=>omega
     case rel=>exact ⟨j+1,m,ab,cb,by go_num,by omega,rfl,rfl,by omega,Qa (by rw [Q6 HT2]; exact Q6 Hm),Qa (by rw [Q6 HT2]; exact Q6 HO),HB,hNw⟩
  ·have ej:j=z.length:=by omega
   subst ej
   have ho:=Q6 HO
   have hm2:=Q6 Hm
   rw [List.take_length] at ho hm2
   subst hm2
   have HO2:=Qa ho
   clear ho HO Hm hz
   go_wp2_with fail
   go_ret
   exact ⟨ab,cb,rfl,Q6 HO2,Q6 HB⟩
set_option maxRecDepth 100000 in
set_option maxHeartbeats 2000000 in
theorem QkS (z:List RI) (n:ByteArray) (az:Option Addr) (cz N:Nat) (w:World) (hz0:RowAt w N az (rcI z)) (hl:z.length≤134217728) (ht:∀ i (h:i < z.length),Tl z[i].name 0∧z[i].name.size≤255) :
  Calls Tryz.prog 104 #[.slice az z.length cz,.string n] w fun e w'=>e=.returned (.bool (Q5Y z n))∧w'=w:=by
 have HZ:=Qa hz0
 have HT:=Qa ht
 have HTk:Hid (∀ j (h:j < z.length),(z.take (j+1)).any (fun x=>Q06 x.name n 0)=((z.take j).any (fun x=>Q06 x.name n 0) || Q06 z[j].name n 0)):=fun j h=>by
  rw [List.take_succ_eq_append_getElem h,List.any_append]
  simp
 have HAll:Hid (Q5Y z n=z.any fun x=>Q06 x.name n 0):=rfl
 have HEnd:Hid (∀ j,(z.take j).any (fun x=>Q06 x.name n 0)=true→Q5Y z n=true):=fun j h=>by
  unfold Q5Y
  rw [List.any_eq_true] at h ⊢
  obtain ⟨x,hx,h2⟩:=h
  exact ⟨x,List.mem_of_mem_take hx,h2⟩
 obtain ⟨res,hres⟩:∃ res,Q5Y z n=res:=⟨_,rfl⟩
 rw [hres] at HAll HEnd ⊢
 clear hz0 ht hres
 go_enter Tryz.func104,Tryz.ntmps104
 go_wp2_with fail
 go_loopg [5] (z.length+1) (fun g vi w'=>∃ j:Nat,vi=.int .i64 j∧j≤z.length∧g=z.length+1 - j∧Hid ((z.take j).any (fun x=>Q06 x.name n 0)=false)∧w'=w)
 case atStart=>exact ⟨0,rfl,Nat.zero_le _,rfl,Qa rfl,rfl⟩
 case round =>
  obtain ⟨j,rfl,hj,rfl,HA,rfl⟩:=hrel
  by_cases cj:j < z.length
  ·obtain ⟨b,o,rfl,hb,x0,_⟩:=Q2R (Q6 HZ) j cj
   obtain ⟨t1,t2⟩:=Q6 HT j cj
   have hk:=Q6 HTk j cj
   rw [Q6 HA] at hk
   obtain ⟨zn,hzn⟩:∃ zn,z[j].name=zn:=⟨_,rfl⟩
   rw [hzn] at x0 t1 t2 hk
   have ka:=Q8F zn n wr 0 t1
   rw [Q13] at ka
   obtain ⟨r,hr⟩:∃ r,Q06 zn n 0=r:=⟨_,rfl⟩
   rw [hr] at ka hk
   have KA:=Qa ka
   have HK:=Qa hk
   clear ka hk hr hzn t1
   go_wp2_with fail
   refine (Q6 KA).mono ?_
   rintro e w1 ⟨rfl,rfl⟩
   cases r with
   | true =>
    have hT:=Q6 HEnd (j+1) (Q6 HK)
    subst hT
    go_wp2_with fail
    go_ret
    exact ⟨rfl,rfl⟩
   | false =>
    go_wp2_with fail
    go_roundg (z.length+1 - (j+1))
    case measure=>omega
    case rel=>exact ⟨j+1,by go_num,by omega,rfl,Qa (Q6 HK),rfl⟩
  ·have ej:j=z.length:=by omega
   subst ej
   have h9:=Q6 HA
   rw [List.take_length,←Q6 HAll] at h9
   subst h9
   go_wp2_with fail
   go_ret
   exact ⟨rfl,rfl⟩
section
variable {P:Program} {w:World}
theorem Q7l {ops:Array Oper} {rest:List Oper} {o:Oper} {a:Act} {Q:Exit→Act→World→Prop} (hgd:o.guard=none) (s x:Operand) (t tx:TypeId)
  (ho:o.op=.call { callee:=.builtin .append,args:=#[s,x],argTypes:=#[t,tx] })
  (base:Nat) (e:TypeId) (i:TypeInfo) (z:Value) (size bytes:Nat) (ht:P.underlying t=some (.slice e)) (hi:P.info? e=some i) (hz:i.zero=some z)
  (hsize:i.size=size) (hby:i.bytes=bytes) (hzs:z.cells.size=size)
  (v:Value) (n:Nat) (xs:List Value) (hs:a.eval s=v) (hown:w.ownsRow base e size v n xs)
  (y:Value) (m:Nat) (news:List Value) (hx:a.eval x=y) (hsrc:Src P size tx y m news w)
  (h63:n+m≤maxLen) (hbytes:(n+m) * bytes≤140737488355328) (hbase:base≤w.heap.size)
  (h:∀ a' c' w',w'.ownsRow base e size (.slice a' (n+m) c') (n+m) (xs++news)→w.grownBy w' v.ownBlock→((Value.slice a' (n+m) c').ownBlock=v.ownBlock∨(Value.slice a' (n+m) c').ownBlock=some w.heap.size)→(∀ g,v.ownBlock=some g→∀ j u,xs[j]? = some u→w'.cell? ⟨g,j,none⟩=some u)→wpList P ops Q rest (a.put o.dst (.slice a' (n+m) c')) w'):wpList P ops Q (o :: rest) a w:=by
 refine wpList_plain hgd fun K hK=>?_
 obtain ⟨v',w',hr,h2,h3,h4⟩:=Q3z (P:=P) w base t tx o.type e i z size bytes ht hi hz hsize hby hzs v n xs hown y m news hsrc h63 hbytes hbase
 have h5:∀ g,v.ownBlock=some g→∀ j u,xs[j]? = some u→w'.cell? ⟨g,j,none⟩=some u:=by
  intro g hg
  rcases hown.2 with ⟨rfl,_⟩ | ⟨g',cap,cur,hv,_⟩
  ·cases hg
  ·subst hv
   cases hg
   subst hsize
   subst hby
   exact Q6f t tx o.type e i z ht hi hz base g' n cap xs hown y m news hsrc h63 hbytes hr
 unfold Oper.wp execOp
 simp only [ho,resolve,invoke,builtin,Sem.run_bind,Sem.run_pure,Result.andThen_ok,List.map_toArray,List.map_cons,List.map_nil,hs,hx,hr]
 obtain ⟨a',c',rfl⟩:∃ a' c',v'=.slice a' (n+m) c':=by
  rcases h2.2 with ⟨g1,g2⟩ | ⟨g,cap,cur,g1,g2⟩
  ·exact ⟨none,0,by rw [g1,g2]⟩
  ·exact ⟨_,_,g1⟩
 exact hK _ _ (h a' c' w' h2 h3 h4 h5)
end
theorem Tryz.info153:(Tryz.prog.info? 153).map (fun i=>(i.zero,i.size,i.bytes))=some (some (.agg #[.int .i64 0,.slice none 0 0]),2,32):=by kernel_rfl
structure DFrame (N:Nat) (w w':World):Prop where
 os:w'.os=w.os
 tape:w'.tape=w.tape
 output:w'.output=w.output
 size:w.heap.size≤w'.heap.size
 low:∀ k,k < N→k < w.heap.size→w'.heap[k]? = w.heap[k]?
 kind:∀ (k:Nat) (cs:Array Value) (t:TypeId) (fr:Nat × Nat),w.heap[k]? = some (Obj.cells cs t fr)→t≠153→w'.heap[k]? = some (Obj.cells cs t fr)
theorem DFrame.refl (N:Nat) (w:World):DFrame N w w:=⟨rfl,rfl,rfl,Nat.le_refl _,fun _ _ _=>rfl,fun _ _ _ _ h _=>h⟩
theorem DFrame.trans {N:Nat} {a b c:World} (h:DFrame N a b) (k:DFrame N b c):DFrame N a c :=
 ⟨k.os.trans h.os,k.tape.trans h.tape,k.output.trans h.output,Nat.le_trans h.size k.size,fun i h1 h2=>(k.low i h1 (Nat.lt_of_lt_of_le h2 h.size)).trans (h.low i h1 h2),fun i cs t fr h1 h2=>k.kind i cs t fr (h.kind i cs t fr h1 h2) h2⟩
theorem DFrame.below {N:Nat} {w w':World} (h:DFrame N w w') (hN:N≤w.heap.size):Below N w w':=⟨h.os,h.tape,h.output,h.size,fun k hk=>h.low k hk (Nat.lt_of_lt_of_le hk hN)⟩
theorem DFrame.of_below {N:Nat} {w w':World} (h:Below w.heap.size w w'):DFrame N w w' :=
 ⟨h.os,h.tape,h.output,h.size,fun k _ hk=>h.block k hk,fun k _ _ _ hk _=>(h.block k (Qb hk)).trans hk⟩
theorem DFrame.of_append {N:Nat} {w w':World} {size:Nat} {v:Value} {n:Nat} {xs:List Value} (hown:w.ownsRow N 153 size v n xs) (hg:w.grownBy w' v.ownBlock):DFrame N w w':=by
 rcases hown.2 with ⟨rfl,_⟩ | ⟨g,cap,cur,rfl,hbg,hgg,_⟩
 ·exact ⟨hg.os,hg.tape,hg.output,hg.size,fun k h1 h2=>hg.block k h2 (by simp [Value.ownBlock]),fun k _ _ _ h1 _=>(hg.block k (Qb h1) (by simp [Value.ownBlock])).trans h1⟩
 ·have hg':w.grownBy w' (some g):=hg
  refine ⟨hg.os,hg.tape,hg.output,hg.size,fun k h1 h2=>hg'.block k h2 (fun e=>by cases e; omega),fun k cs' t' fr' h1 h2=>(hg'.block k (Qb h1) (fun e=>?_)).trans h1⟩
  cases e
  rw [hgg] at h1
  cases h1
  exact h2 rfl
theorem DFrame.mono {N M:Nat} {w w':World} (h:DFrame N w w') (hM:M≤N):DFrame M w w':=⟨h.os,h.tape,h.output,h.size,fun k h1 h2=>h.low k (by omega) h2,h.kind⟩
theorem RecRow.dframe {N:Nat} {w w':World} {a:Option Addr} {l:List RI} (h:RecRow w a l) (hf:DFrame N w w'):RecRow w' a l:=by
 intro hl
 obtain ⟨g,o,cs,h1,h2,h3⟩:=h hl
 exact ⟨g,o,cs,h1,hf.kind g _ _ _ h2 (by decide),h3⟩
def DRow (w:World) (L:List ST) (xs:List Value):Prop :=
 xs.length=L.length * 2∧∀ i (h:i < L.length),∃ a c,xs[i * 2]? = some (.int .i64 (L[i].part:Nat))∧xs[i * 2+1]? = some (.slice a L[i].l.length c)∧RecRow w a L[i].l∧L[i].l.length≤c
theorem DRow.nil (w:World):DRow w [] []:=⟨rfl,fun i h=>by simp at h⟩
theorem DRow.frame {N:Nat} {w w':World} {L:List ST} {xs:List Value} (h:DRow w L xs) (hf:DFrame N w w'):DRow w' L xs:=by
 refine ⟨h.1,fun i hi=>?_⟩
 obtain ⟨a,c,h1,h2,h3,h4⟩:=h.2 i hi
 exact ⟨a,c,h1,h2,h3.dframe hf,h4⟩
theorem DRow.more {w:World} {L:List ST} {xs:List Value} (h:DRow w L xs) (s:ST) {a:Option Addr} {c:Nat} (hr:RecRow w a s.l) (hc:s.l.length≤c):DRow w (L++[s]) (xs++[.int .i64 (s.part:Nat),.slice a s.l.length c]):=by
 obtain ⟨h1,h2⟩:=h
 refine ⟨by simp [h1]; omega,fun i hi=>?_⟩
 rcases Nat.lt_or_ge i L.length with k | k
 ·obtain ⟨a',c',x1,x2,x3⟩:=h2 i k
  rw [List.getElem_append_left k]
  refine ⟨a',c',?_,?_,x3⟩ <;> rw [List.getElem?_append_left (by omega)] <;> assumption
 ·have e:i=L.length:=by simp at hi; omega
  subst e
  rw [List.getElem_append_right (Nat.le_refl _)]
  simp only [Nat.sub_self,List.getElem_cons_zero]
  refine ⟨a,c,?_,?_,hr,hc⟩
  ·rw [List.getElem?_append_right (by omega),h1,Nat.sub_self]; rfl
  ·rw [List.getElem?_append_right (by omega),h1,Nat.add_sub_cancel_left]; rfl
def Ds (w:World) (N:Nat) (a:Option Addr) (c:Nat) (L:List ST) (xs:List Value):Prop:=w.ownsRow N 153 2 (.slice a L.length c) L.length xs∧DRow w L xs
theorem Ds.nil (w:World) (N:Nat):Ds w N none 0 [] []:=⟨World.ownsRow_nil _ _ _ _,DRow.nil w⟩
theorem Ds.below {w w':World} {N:Nat} {a:Option Addr} {c:Nat} {L:List ST} {xs:List Value} (h:Ds w N a c L xs) (hb:Below w.heap.size w w'):Ds w' N a c L xs:=⟨Qk h.1 hb,h.2.frame (DFrame.of_below (N:=0) hb)⟩
def QbT (w:World) (N:Nat) (a:Option Addr) (c:Nat) (L:List ST) (xs:List Value) (R:List ST) (e:Ending) (w':World):Prop :=
 ∃ a' c' ys,e=.returned (.slice a' R.length c')∧Ds w' N a' c' R (xs++ys)∧DFrame N w w'∧((Value.slice a' R.length c').ownBlock=(Value.slice a L.length c).ownBlock∨∃ g,(Value.slice a' R.length c').ownBlock=some g∧w.heap.size≤g) ∧
  (∀ k,k < w.heap.size→some k≠(Value.slice a L.length c).ownBlock→w'.heap[k]? = w.heap[k]?)∧(∀ g,(Value.slice a L.length c).ownBlock=some g→∀ j u,xs[j]? = some u→w'.cell? ⟨g,j,none⟩=some u)
theorem Qfj (w:World) (B:Nat) (x0 x1:Value) (t:TypeId) (h:w.heap.size=B):∀ j u,[x0,x1][j]? = some u→(w.alloc (.cells #[x0,x1] t)).cell? ((⟨B,0,none⟩:Addr).add j)=some u:=by
 subst h
 exact World.news_of_block (cs:=#[x0,x1]) (heap_alloc_new w _)
theorem Qmj {x0:Int} {a:Option Addr} {n c:Nat}:∀ v∈([.int .i64 x0,.slice a n c]:List Value),v.oneCell'=true:=by
 intro v hv
 simp at hv
 rcases hv with rfl | rfl <;> rfl
set_option maxRecDepth 100000 in
set_option maxHeartbeats 2000000 in
theorem Q6n (N:Nat) (a:Option Addr) (c:Nat) (L:List ST) (xs:List Value) (p:Nat) (z:List RI) (az:Option Addr) (cz:Nat) (n:ByteArray) (t:Int) (w:World) (hD:Ds w N a c L xs) (hN:N≤w.heap.size) (hz:RecRow w az z) (hl:z.length≤134217728) (hL:L.length≤134217728) :
  Calls Tryz.prog 105 #[.slice a L.length c,.int .i64 (p:Nat),.slice az z.length cz,.string n,.int .i64 t] w fun e w'=>QbT w N a c L xs (Q0c z L p n t) e w':=by
 have K1:=Qa (Qcl z n t az cz w.heap.size w hz.row (Nat.le_refl _) hl)
 have HW:Hid ((ofP z n t=[]→Q0c z L p n t=L)∧(¬ ofP z n t=[]→Q0c z L p n t=L++[⟨p,t,ofP z n t⟩])):=⟨fun h=>by unfold Q0c; rw [if_pos h],fun h=>by unfold Q0c; rw [if_neg h]⟩
 have hlen:=Q3w z n t
 obtain ⟨i0,hi,hz0,hz1,hz2⟩:=info_parts Tryz.info153
 have Hi:=Qa hi
 have Hz0:=Qa hz0
 have Hz1:=Qa hz1
 have Hz2:=Qa hz2
 have HD:=Qa hD
 clear hi hz0 hz1 hz2 hD hz
 generalize Q0c z L p n t=R at *
 generalize ofP z n t=Q at *
 go_enter Tryz.func105,Tryz.ntmps105
 go_wp2_with fail
 refine (Q6 K1).mono ?_
 rintro e w1 ⟨aq,cq,rfl,o1,b1⟩
 obtain ⟨hr,hc⟩:=Q18 o1
 have HD1:=Qa ((Q6 HD).below b1)
 have HRec:=Qa hr
 have HB1:=Qa b1
 have hs1:=b1.size
 clear o1 b1 hr K1
 by_cases cq0:Q=[]
 ·have hR:=(Q6 HW).1 cq0
  subst hR
  subst cq0
  have hw:QbT w N a c R xs R (.returned (.slice a R.length c)) w1:=by
   refine ⟨a,c,[],rfl,by rw [List.append_nil]; exact Q6 HD1,DFrame.of_below (Q6 HB1),.inl rfl,fun k hk _=>(Q6 HB1).block k hk,fun g hg j u hu=>?_⟩
   rcases (Q6 HD1).1.2 with ⟨h0,_⟩ | ⟨g',cap,cur,h0,_⟩
   ·rw [h0] at hg; cases hg
   ·cases h0
    cases hg
    have e:=(Q6 HD1).1.cells (g:=g') rfl j u hu
    rw [Addr.add_lit,Nat.zero_add] at e
    exact e
  have HWo:=Qa hw
  clear hw
  go_wp2_with fail
  go_ret
  exact Q6 HWo
 ·have hR:=(Q6 HW).2 cq0
  have hq:0 < Q.length:=List.length_pos_iff.2 cq0
  have HR:=Qa hR
  have hqe:((Q.length:Int) == 0)=false:=by rw [beq_eq_false_iff_ne]; omega
  have hAl:=(Below.refl w1.heap.size w1).alloc (Nat.le_refl _) (.cells #[.int .i64 (p:Nat),.slice aq Q.length cq] 153)
  have HOA:=Qa ((Q6 HD1).below hAl)
  have HAl:=Qa hAl
  have HMore:=Qa (fun (W:World) (h1:DRow W L xs) (h2:RecRow W aq Q)=>h1.more ⟨p,t,Q⟩ h2 hc)
  clear hR cq0 HW hAl
  go_wp2_with (at_builtin; refine Q7l rfl _ _ 113 113 rfl N 153 i0 (.agg #[.int .i64 0,.slice none 0 0]) 2 32 Tryz.underlying113 (Q6 Hi) (Q6 Hz0) (Q6 Hz1) (Q6 Hz2) rfl (.slice a L.length c) L.length xs (by rfl) (Q6 HOA).1 (.slice (some ⟨w1.heap.size,0,none⟩) 1 1) 1 [.int .i64 (p:Nat),.slice aq Q.length cq] (by rfl) (Src.ofSlice _ Tryz.underlying113 ⟨w1.heap.size,0,none⟩ 1 1 _ rfl (Qfj _ _ _ _ _ rfl) Qmj) (by unfold maxLen; omega) (by omega) (by simp; omega) ?_; intro a2 c2 w2 hown2 hgrow2 hat2 hkept2)
  have hF2:DFrame N w w2:=(DFrame.of_below (Q6 HB1)).trans ((DFrame.of_below (Q6 HAl)).trans (DFrame.of_append (Q6 HOA).1 hgrow2))
  have hw:QbT w N a c L xs R (.returned (.slice a2 (L.length+1) c2)) w2:=by
   have hRl:R.length=L.length+1:=by rw [Q6 HR,List.length_append]; rfl
   refine ⟨a2,c2,[.int .i64 (p:Nat),.slice aq Q.length cq],by rw [hRl],⟨by rw [hRl]; exact hown2,?_⟩,hF2,?_,fun k hk hne=>?_,hkept2⟩
   ·rw [Q6 HR]
    exact Q6 HMore _ ((Q6 HOA).2.frame (DFrame.of_append (Q6 HOA).1 hgrow2)) (((Q6 HRec).dframe (DFrame.of_below (N:=N) (Q6 HAl))).dframe (DFrame.of_append (Q6 HOA).1 hgrow2))
   ·rw [hRl]
    rcases hat2 with q | q
    ·exact .inl q
    ·refine .inr ⟨_,q,?_⟩
     have:=(Q6 HAl).size
     omega
   ·have h1:=(Q6 HB1).block k hk
    have h2:=(Q6 HAl).block k (by omega)
    exact (hgrow2.block k (by have:=(Q6 HAl).size; omega) hne).trans (h2.trans h1)
  have HWo:=Qa hw
  clear hw
  go_wp2_with fail
  go_ret
  exact Q6 HWo
theorem Qij (z:List RI) (n:ByteArray) (t:Int):∀ j,j≤z.length→(ofP (z.take j) n t=[]↔Q0Q (Q0f z n [] j) t=false)
 | 0,_=>by simp [ofP,Q0f,Q0Q]
 | j+1,hj=>by
  have ih:=Qij z n t j (by omega)
  obtain ⟨o1,o2⟩:=Qa0 z n t j (by omega)
  rw [Q26 z n [] j (by omega)]
  by_cases c:z[j].name=n∧Q0Q (Q0f z n [] j) z[j].ty=false
  ·rw [if_pos c]
   have hne:¬ ofP z n z[j].ty=[]:=fun e=>by
    have:z[j]∈ofP z n z[j].ty:=List.mem_filter.2 ⟨List.getElem_mem (by omega),decide_eq_true ⟨c.1,rfl⟩⟩
    rw [e] at this
    simp at this
   unfold Q0c
   rw [if_neg hne]
   have hs:Q0Q (Q0f z n [] j++[⟨0,z[j].ty,ofP z n z[j].ty⟩]) t=(Q0Q (Q0f z n [] j) t || decide (z[j].ty=t)):=by
    unfold Q0Q
    rw [List.any_append]
    simp
   rw [hs]
   by_cases ct:z[j].ty=t
   ·rw [o1 ⟨c.1,ct⟩,decide_eq_true ct]
    simp
   ·rw [o2 (fun h=>ct h.2),decide_eq_false ct,Bool.or_false]
    exact ih
  ·rw [if_neg c]
   by_cases cn:z[j].name=n∧z[j].ty=t
   ·rw [o1 cn]
    have hh:Q0Q (Q0f z n [] j) t=true:=by
     cases h:Q0Q (Q0f z n [] j) t with
     | true=>rfl
     | false=>exact absurd ⟨cn.1,by rw [cn.2]; exact h⟩ c
    rw [hh]
    simp
   ·rw [o2 cn]
    exact ih
def Q5f (w:World) (R:List ST) (e:Ending) (w':World):Prop:=∃ a c xs,e=.returned (.slice a R.length c)∧Ds w' w.heap.size a c R xs∧DFrame w.heap.size w w'
set_option maxRecDepth 100000 in
set_option maxHeartbeats 4000000 in
theorem QjN (z:List RI) (n:ByteArray) (t:Int) (az:Option Addr) (cz:Nat) (w:World) (hz:RecRow w az z) (hcz:z.length≤cz) (hl:z.length≤16777216) :
  Calls Tryz.prog 106 #[.slice az z.length cz,.string n,.int .i64 t] w fun e w'=>Q5f w (Q0w z [] n t) e w':=by
 have HZ:=Qa hz
 by_cases ct:t=255
 ·have hA:Q0w z [] n t=Q0f z n [] z.length:=by unfold Q0w; rw [if_pos ct]
  rw [hA]
  subst ct
  have HSt:=Qa (fun j (h:j < z.length)=>Q26 z n [] j h)
  have HHas:=Qa (fun j t (h:j≤z.length)=>Qij z n t j h)
  have HWl:=Qa (fun j=>Q5I z n [] j)
  clear hA hz
  obtain ⟨N,hN⟩:∃ N,w.heap.size=N:=⟨_,rfl⟩
  have HOut:Hid (∀ e w',(∃ a c xs,e=.returned (.slice a (Q0f z n [] z.length).length c)∧Ds w' N a c (Q0f z n [] z.length) xs∧DFrame N w w')→Q5f w (Q0f z n [] z.length) e w'):=fun e w' h=>by unfold Q5f; rw [hN]; exact h
  go_enter Tryz.func106,Tryz.ntmps106
  go_wp2_with fail
  go_loopg [7,8] (z.length+1) (fun g vs vi w'=>∃ (j:Nat) (a:Option Addr) (c m:Nat) (xs:List Value),vi=.int .i64 j∧j≤z.length∧g=z.length+1 - j∧vs=.slice a m c∧Hid ((Q0f z n [] j).length=m)∧Hid (Ds w' N a c (Q0f z n [] j) xs)∧Hid (DFrame N w w')∧N≤w'.heap.size)
  case atStart=>exact ⟨0,none,0,0,[],rfl,Nat.zero_le _,rfl,rfl,Qa rfl,Qa (Ds.nil _ _),Qa (DFrame.refl _ _),by omega⟩
  case round =>
   obtain ⟨j,a,c,m,xs,rfl,hj,rfl,rfl,HLn,HD,HF,hNw⟩:=hrel
   by_cases cj:j < z.length
   ·have hzr:=(Q6 HZ).dframe (Q6 HF)
    obtain ⟨b,o,hab,hb,x0,x1,_⟩:=Q2R hzr.row j cj
    have hst:=Q6 HSt j cj
    have hhas:=Q6 HHas j z[j].ty hj
    have hwl:=Q6 HWl j
    rw [Q6 HLn,List.length_nil,Nat.zero_add] at hwl
    have hlt:(z.take j).length=j:=by rw [List.length_take]; omega
    have hzt:RowAt wr wr.heap.size az (rcI (z.take j)):=by
     have h9:=hzr.row
     rw [←List.take_append_drop j z,Q6D] at h9
     intro hx
     obtain ⟨b',o',h1,h2,h3⟩:=h9 (fun e=>hx (List.append_eq_nil_iff.1 e).1)
     refine ⟨b',o',h1,h2,fun i u hu=>h3 i u ?_⟩
     rw [List.getElem?_append_left (List.getElem?_eq_some_iff.1 hu).1]
     exact hu
    obtain ⟨zt,hzt0⟩:∃ zt,z[j].ty=zt:=⟨_,rfl⟩
    obtain ⟨zn,hzn0⟩:∃ zn,z[j].name=zn:=⟨_,rfl⟩
    rw [hzt0] at x1 hst hhas
    rw [hzn0] at x0 hst
    have ko:=fun (W:World) (h:Below wr.heap.size wr W)=>Qcl (z.take j) n zt az cz wr.heap.size W (hzt.below h) h.size (by omega)
    rw [hlt] at ko
    have KO:=Qa ko
    have HSt2:=Qa hst
    have HHas2:=Qa hhas
    obtain ⟨Q,hQ⟩:∃ Q,ofP (z.take j) n zt=Q:=⟨_,rfl⟩
    have hql:=Q3w (z.take j) n zt
    rw [hQ] at KO HHas2 hql
    have HZr:=Qa hzr
    subst hab
    have q3:(j:Int)≤(cz:Int):=by omega
    clear ko hst hhas hzt hzr hzt0 hzn0 hQ
    go_upto_region 6 with fail
    go_cut [9] (fun v w'=>∃ aq cq,v=.slice aq Q.length cq∧Hid (Below wr.heap.size wr w'))
    case first =>
     go_region_with (first | (go_at_call 141; refine (Q6 KO wr.drew (Q2x (Below.refl _ _))).mono ?_; rintro e w1 ⟨aq,cq,rfl,_,hb1⟩))
     all_goals go_wp2_with fail
     all_goals go_meet
     all_goals exact ⟨aq,cq,rfl,Qa (Q0x hb1)⟩
    case rest =>
     obtain ⟨aq,cq,rfl,HC⟩:=hcut
     have hbw:b < wr.heap.size:=hb
     have y0:=((Q6 HC).cell (p:=⟨b,o+j * 5,none⟩) hbw).trans x0
     have y1:=((Q6 HC).cell (p:=⟨b,o+j * 5+1,none⟩) hbw).trans x1
     have hbc:b < wc.heap.size:=Nat.lt_of_lt_of_le hbw (Q6 HC).size
     have HD2:=Qa ((Q6 HD).below (Q6 HC))
     have HF2:=Qa ((Q6 HF).trans (DFrame.of_below (N:=N) (Q6 HC)))
     have HZ2:=Qa ((Q6 HZr).below (Q6 HC))
     have hN2:N≤wc.heap.size:=Nat.le_trans hNw (Q6 HC).size
     clear x0 x1 hb hbw HC HD HF HZr KO hNw
     by_cases c1:zn=n
     ·have f1:=Q1i c1
      by_cases c2:Q=[]
      ·have hcond:zn=n∧Q0Q (Q0f z n [] j) zt=false:=⟨c1,(Q6 HHas2).1 c2⟩
       have hst:=Q6 HSt2
       rw [if_pos hcond] at hst
       have HS3:=Qa hst
       have kw:=Q6n N a c (Q0f z n [] j) xs 0 z _ cz n zt wc (Q6 HD2) hN2 (Q6 HZ2) (by omega) (by rw [Q6 HLn]; omega)
       rw [←hst,Q6 HLn] at kw
       have KW:=Qa kw
       subst c2
       clear hst kw hcond c1
       go_wp2_with fail
       refine (Q6 KW).mono ?_
       rintro e w2 ⟨a2,c2,ys,rfl,hD2,hF2,_⟩
       have HD3:=Qa hD2
       have HF3:=Qa ((Q6 HF2).trans hF2)
       have hN3:N≤w2.heap.size:=Nat.le_trans hN2 hF2.size
       clear hD2 hF2 KW
       go_wp2_with fail
       go_roundg (z.length+1 - (j+1))
       case measure=>omega
       case rel=>exact ⟨j+1,a2,c2,_,_,by go_num,by omega,rfl,rfl,Qa rfl,HD3,HF3,hN3⟩
      ·have hst:=Q6 HSt2
       rw [if_neg (fun h=>c2 ((Q6 HHas2).2 h.2))] at hst
       have hq0:0 < Q.length:=List.length_pos_iff.2 c2
       have f2:((Q.length:Int) == 0)=false:=by rw [beq_eq_false_iff_ne]; omega
       have HS3:=Qa hst
       clear hst c1 c2
       go_wp2_with fail
       go_roundg (z.length+1 - (j+1))
       case measure=>omega
       case rel=>exact ⟨j+1,a,c,m,xs,by go_num,by omega,rfl,rfl,Qa (by rw [Q6 HS3]; exact Q6 HLn),Qa (by rw [Q6 HS3]; exact Q6 HD2),HF2,hN2⟩
     ·have f1:=Q1w c1
      have hst:=Q6 HSt2
      rw [if_neg (fun h=>c1 h.1)] at hst
      have HS3:=Qa hst
      clear hst c1
      go_wp2_with fail
      go_roundg (z.length+1 - (j+1))
      case measure=>omega
      case rel=>exact ⟨j+1,a,c,m,xs,by go_num,by omega,rfl,rfl,Qa (by rw [Q6 HS3]; exact Q6 HLn),Qa (by rw [Q6 HS3]; exact Q6 HD2),HF2,hN2⟩
   ·have ej:j=z.length:=by omega
    subst ej
    have hln:=Q6 HLn
    subst hln
    go_wp2_with fail
    go_ret
    exact Q6 HOut _ _ ⟨a,c,xs,rfl,Q6 HD,Q6 HF⟩
 ·have hA:Q0w z [] n t=if t=5 then Q0c z [] 0 n 5 else Q0c z (Q0c z [] 0 n 5) 0 (Q7t z n) t:=by unfold Q0w; rw [if_neg ct]
  have f0:(t == 255)=false:=by rw [beq_eq_false_iff_ne]; exact ct
  have K0:=Qa (Qcl z n 5 az cz w.heap.size w hz.row (Nat.le_refl _) (by omega))
  have hql:=Q3w z n 5
  obtain ⟨R,hR⟩:∃ R,Q0w z [] n t=R:=⟨_,rfl⟩
  rw [hR] at hA ⊢
  have HA:=Qa hA
  have HQd:Hid (∀ x X,ofP z n 5=x :: X→Q7t z n=x.data):=fun x X h=>by unfold Q7t; rw [h]
  have HQn:Hid (ofP z n 5=[]→Q7t z n=n∧Q0c z [] 0 n 5=[]):=fun h=>⟨by unfold Q7t; rw [h],by unfold Q0c; rw [if_pos h]⟩
  have hwl:=Q24 z [] 0 n 5
  have HOne:Hid (t=5∨ofP z n 5=[]→R=Q0c z [] 0 n t):=fun h=>by
   rw [hA]
   by_cases c5:t=5
   ·rw [if_pos c5,c5]
   ·rw [if_neg c5]
    rcases h with h | h
    ·exact absurd h c5
    ·obtain ⟨q1,q2⟩:=Q6 HQn h
     rw [q1,q2]
  clear hA hR hz
  go_enter Tryz.func106,Tryz.ntmps106
  go_wp2_with fail
  refine (Q6 K0).mono ?_
  rintro e w1 ⟨aq,cq,rfl,hoq,hb1⟩
  have HQr:=Qa (Q18 hoq).1
  have HB1:=Qa hb1
  have HZ1:=Qa ((Q6 HZ).below hb1)
  have hs1:=hb1.size
  obtain ⟨Q,hQ⟩:∃ Q,ofP z n 5=Q:=⟨_,rfl⟩
  rw [hQ] at HQd HQn HOne HQr hql ⊢
  clear hoq hb1 K0 hQ HZ
  by_cases c0:t=5∨Q=[]
  ·have hR:=Q6 HOne c0
   have kw:=Q6n w.heap.size none 0 [] [] 0 z az cz n t w1 (Ds.nil _ _) hs1 (Q6 HZ1) (by omega) (by simp)
   rw [←hR] at kw
   have KW:=Qa kw
   clear kw hR
   by_cases c5:t=5
   ·subst c5
    by_cases q:(0:Int) < (Q.length:Int)
    ·have f1:=decide_eq_true q
     clear c0
     go_wp2_with fail
     refine (Q6 KW).mono ?_
     rintro e w2 ⟨a2,c2,ys,rfl,hD2,hF2,_⟩
     have HO2:Hid (Q5f w R (.returned (.slice a2 R.length c2)) w2):=⟨a2,c2,_,rfl,hD2,(DFrame.of_below (Q6 HB1)).trans hF2⟩
     clear hD2 hF2
     go_wp2_with fail
     go_ret
     exact Q6 HO2
    ·have f1:=decide_eq_false q
     clear c0
     go_wp2_with fail
     refine (Q6 KW).mono ?_
     rintro e w2 ⟨a2,c2,ys,rfl,hD2,hF2,_⟩
     have HO2:Hid (Q5f w R (.returned (.slice a2 R.length c2)) w2):=⟨a2,c2,_,rfl,hD2,(DFrame.of_below (Q6 HB1)).trans hF2⟩
     clear hD2 hF2
     go_wp2_with fail
     go_ret
     exact Q6 HO2
   ·have hq0:Q=[]:=by
     rcases c0 with h | h
     ·exact absurd h c5
     ·exact h
    subst hq0
    clear c0
    go_wp2_with fail
    refine (Q6 KW).mono ?_
    rintro e w2 ⟨a2,c2,ys,rfl,hD2,hF2,_⟩
    have HO2:Hid (Q5f w R (.returned (.slice a2 R.length c2)) w2):=⟨a2,c2,_,rfl,hD2,(DFrame.of_below (Q6 HB1)).trans hF2⟩
    clear hD2 hF2
    go_wp2_with fail
    go_ret
    exact Q6 HO2
  ·have c5:t≠5:=fun h=>c0 (.inl h)
   have cq:Q≠[]:=fun h=>c0 (.inr h)
   obtain ⟨x,X,hx⟩:=List.exists_cons_of_ne_nil cq
   have hq0:0 < Q.length:=List.length_pos_iff.2 cq
   have f1:decide ((0:Int) < (Q.length:Int))=true:=decide_eq_true (by omega)
   have f2:(t != 5)=true:=bne_iff_ne.2 c5
   have hR:=Q6 HA
   rw [if_neg c5,Q6 HQd x X hx] at hR
   have kw:=Q6n w.heap.size none 0 [] [] 0 z az cz n 5 w1 (Ds.nil _ _) hs1 (Q6 HZ1) (by omega) (by simp)
   have KW:=Qa kw
   have HRr:=Qa hR
   have hxx:Q[0]=x:=by simp only [hx,List.getElem_cons_zero]
   obtain ⟨b,o,hab,hb,_,_,_,_,x4⟩:=Q2R (Q6 HQr).row 0 hq0
   rw [hxx] at x4
   subst hab
   simp only [Nat.zero_mul,Nat.add_zero] at x4
   obtain ⟨xd,hxd⟩:∃ xd,x.data=xd:=⟨_,rfl⟩
   rw [hxd] at HRr x4
   clear kw hR c0 hx hxx hxd c5 cq
   go_wp2_with fail
   refine (Q6 KW).mono ?_
   rintro e w2 ⟨a2,c2,ys,rfl,hD2,hF2,_⟩
   have y4:w2.cell? ⟨b,o+4,none⟩=some (.string xd):=by
    obtain ⟨g,og,cs,hg1,hg2,hg3⟩:=Q6 HQr (List.length_pos_iff.1 hq0)
    cases hg1
    have h9:=hF2.kind _ _ _ _ hg2 (by decide)
    rw [Qc h9,←Qc hg2]
    exact x4
   have hb2:b < w2.heap.size:=Nat.lt_of_lt_of_le hb hF2.size
   have hs2:=hF2.size
   have kw2:=Q6n w.heap.size a2 c2 (Q0c z [] 0 n 5) ([]++ys) 0 z az cz xd t w2 hD2 (by omega) ((Q6 HZ1).dframe hF2) (by omega) (by simp only [List.length_nil] at hwl; omega)
   rw [←Q6 HRr] at kw2
   have KW2:=Qa kw2
   have HF2:=Qa ((DFrame.of_below (N:=w.heap.size) (Q6 HB1)).trans hF2)
   clear kw2 hD2 hF2 x4 hb KW
   go_wp2_with fail
   refine (Q6 KW2).mono ?_
   rintro e w3 ⟨a3,c3,ys3,rfl,hD3,hF3,_⟩
   have HO3:Hid (Q5f w R (.returned (.slice a3 R.length c3)) w3):=⟨a3,c3,_,rfl,hD3,(Q6 HF2).trans hF3⟩
   clear hD3 hF3
   go_wp2_with fail
   go_ret
   exact Q6 HO3
theorem Q9z {w:World} {M:Nat} {a:Option Addr} {L:List ST} {xs:List Value} (hr:RowAt w M a xs) (hd:DRow w L xs) (i:Nat) (hi:i < L.length) :
  ∃ g o al cl,a=some ⟨g,o,none⟩∧g < M∧w.cell? ⟨g,o+i * 2,none⟩=some (.int .i64 (L[i].part:Nat))∧w.cell? ⟨g,o+i * 2+1,none⟩=some (.slice al L[i].l.length cl)∧RecRow w al L[i].l∧L[i].l.length≤cl:=by
 obtain ⟨al,cl,h1,h2,h3,h4⟩:=hd.2 i hi
 obtain ⟨g,o,e1,e2,e3⟩:=hr (fun e=>by rw [e] at h1; simp at h1)
 exact ⟨g,o,al,cl,e1,e2,e3 _ _ h1,e3 _ _ h2,h3,h4⟩
def Ql1 (L:List ST):Prop:=∀ i (h:i < L.length),∃ x X,L[i].l=x :: X∧x.ty=L[i].kind
theorem Qfi (z:List RI) (n:ByteArray) (t:Int):Ql1 (Q0w z [] n t):=fun i h=>by
 obtain ⟨m,h1,h2⟩:=KindZ.answ z n t _ (List.getElem_mem h)
 obtain ⟨x,X,hx⟩:=List.exists_cons_of_ne_nil h2
 refine ⟨x,X,hx,?_⟩
 have:x∈ofP z m (Q0w z [] n t)[i].kind:=by rw [←h1,hx]; simp
 exact (QiP this).2.2
set_option maxRecDepth 100000 in
set_option maxHeartbeats 2000000 in
theorem QkU (L:List ST) (t:Int) (a:Option Addr) (c M:Nat) (xs:List Value) (w:World) (hr:RowAt w M a xs) (hd:DRow w L xs) (hM:M≤w.heap.size) (hk:Ql1 L) (hl:L.length≤134217728) :
  Calls Tryz.prog 107 #[.slice a L.length c,.int .i64 t] w fun e w'=>e=.returned (.bool (Q1K L t))∧w'=w:=by
 have HR:=Qa hr
 have HD:=Qa hd
 have HK:=Qa hk
 have HTk:Hid (∀ j (h:j < L.length),(L.take (j+1)).any (fun s=>decide (s.kind=t))=((L.take j).any (fun s=>decide (s.kind=t)) || decide (L[j].kind=t))):=fun j h=>by
  rw [List.take_succ_eq_append_getElem h,List.any_append]
  simp
 clear hr hd hk
 by_cases ct:t=255
 ·subst ct
  have hA:Q1K L 255=decide (0 < L.length):=by unfold Q1K; rw [if_pos rfl]
  rw [hA]
  clear hA HTk
  cases L with
  | nil =>
   go_enter Tryz.func107,Tryz.ntmps107
   go_wp2_with fail
   go_loopg [5] 1 (fun g vi w'=>vi=.int .i64 0∧w'=w)
   case atStart=>exact ⟨rfl,rfl⟩
   case round =>
    obtain ⟨rfl,rfl⟩:=hrel
    go_wp2_with fail
    go_ret
    exact ⟨rfl,rfl⟩
  | cons s S =>
   obtain ⟨g,o,al,cl,rfl,hg,x0,x1,hrec,_⟩:=Q9z (Q6 HR) (Q6 HD) 0 (by simp)
   rw [decide_eq_true (by simp:0 < (s :: S).length)]
   have hl1:0 < (s :: S).length:=by simp
   generalize (s :: S).length=n at *
   go_enter Tryz.func107,Tryz.ntmps107
   go_wp2_with fail
   go_loopg [5] 1 (fun g vi w'=>vi=.int .i64 0∧w'=w)
   case atStart=>exact ⟨rfl,rfl⟩
   case round =>
    obtain ⟨rfl,rfl⟩:=hrel
    go_wp2_with fail
    go_ret
    exact ⟨rfl,rfl⟩
 ·have hA:Q1K L t=L.any fun s=>decide (s.kind=t):=by unfold Q1K Q0Q; rw [if_neg ct]
  have f0:(t == 255)=false:=by rw [beq_eq_false_iff_ne]; exact ct
  rw [hA]
  have HEnd:Hid (∀ j,(L.take j).any (fun s=>decide (s.kind=t))=true→(L.any fun s=>decide (s.kind=t))=true):=fun j h=>by
   rw [List.any_eq_true] at h ⊢
   obtain ⟨x,hx,h2⟩:=h
   exact ⟨x,List.mem_of_mem_take hx,h2⟩
  have HAll:Hid ((L.any fun s=>decide (s.kind=t))=(L.take L.length).any fun s=>decide (s.kind=t)):=Qa (by rw [List.take_length])
  obtain ⟨res,hres⟩:∃ res,(L.any fun s=>decide (s.kind=t))=res:=⟨_,rfl⟩
  rw [hres] at HEnd HAll ⊢
  clear hA hres ct
  go_enter Tryz.func107,Tryz.ntmps107
  go_wp2_with fail
  go_loopg [5] (L.length+1) (fun g vi w'=>∃ j:Nat,vi=.int .i64 j∧j≤L.length∧g=L.length+1 - j∧Hid ((L.take j).any (fun s=>decide (s.kind=t))=false)∧w'=w)
  case atStart=>exact ⟨0,rfl,Nat.zero_le _,rfl,Qa rfl,rfl⟩
  case round =>
   obtain ⟨j,rfl,hj,rfl,HN,rfl⟩:=hrel
   by_cases cj:j < L.length
   ·obtain ⟨g,o,al,cl,hga,hg,x0,x1,hrec,hcl⟩:=Q9z (Q6 HR) (Q6 HD) j cj
    obtain ⟨x,X,hx,hxt⟩:=Q6 HK j cj
    have hk:=Q6 HTk j cj
    rw [Q6 HN] at hk
    rw [←hxt] at hk
    have hlp:0 < L[j].l.length:=by rw [hx]; simp
    obtain ⟨b,p,hab,hb,_,y1,_⟩:=Q2R hrec.row 0 hlp
    have h0:L[j].l[0]=x:=by simp only [hx,List.getElem_cons_zero]
    rw [h0] at y1
    subst hga
    subst hab
    simp only [Nat.zero_mul,Nat.add_zero] at y1
    obtain ⟨xt,hxt0⟩:∃ xt,x.ty=xt:=⟨_,rfl⟩
    obtain ⟨ln,hln⟩:∃ ln,L[j].l.length=ln:=⟨_,rfl⟩
    rw [hxt0] at y1 hk
    rw [hln] at x1 hlp
    have hgw:g < wr.heap.size:=by omega
    have HK2:=Qa hk
    clear hk hx hxt h0 hrec hxt0 hln x0
    by_cases ce:xt=t
    ·have f1:(xt == t)=true:=by rw [beq_iff_eq]; exact ce
     have hT:=Q6 HEnd (j+1) (by rw [Q6 HK2,decide_eq_true ce]; rfl)
     subst hT
     clear ce
     go_wp2_with fail
     go_ret
     exact ⟨rfl,rfl⟩
    ·have f1:(xt == t)=false:=by rw [beq_eq_false_iff_ne]; exact ce
     have HN2:Hid ((L.take (j+1)).any (fun s=>decide (s.kind=t))=false):=Qa (by rw [Q6 HK2,decide_eq_false ce]; rfl)
     clear ce
     go_wp2_with fail
     go_roundg (L.length+1 - (j+1))
     case measure=>omega
     case rel=>exact ⟨j+1,by go_num,by omega,rfl,HN2,rfl⟩
   ·have ej:j=L.length:=by omega
    subst ej
    have h9:=Q6 HN
    rw [←Q6 HAll] at h9
    subst h9
    go_wp2_with fail
    go_ret
    exact ⟨rfl,rfl⟩
end Go.Proofs.YtdhobdmhnocbgabGreatDoor
