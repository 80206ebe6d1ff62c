import Derived.Test.YtdhobdmhnocbgabGreatDoorSMwJ
import Derived.Test.YtdhobdmhnocbgabGreatDoorSTxE
import Derived.Test.YtdhobdmhnocbgabGreatDoorSAnyB
import Derived.Deep.RegionHeld3
namespace Go.Proofs.YtdhobdmhnocbgabGreatDoor
open Go.RowKit Zr
def Ls (w:World) (N R:Nat) (l:List RI):Prop :=
 ∃ (a:Option Addr) (c:Nat),w.heap[R]? = some (.cells #[.slice a l.length c] 136 (0,0))∧N≤R∧w.ownsRow N 61 5 (.slice a l.length c) l.length (rcI l)
theorem Ls.lt {w:World} {N R:Nat} {l:List RI} (h:Ls w N R l):N≤R∧R < w.heap.size:=by
 obtain ⟨a,c,h1,h2,_⟩:=h
 exact ⟨h2,Qb h1⟩
theorem Ls.below {w w':World} {N R:Nat} {l:List RI} (h:Ls w N R l) (hb:Below w.heap.size w w'):Ls w' N R l:=by
 obtain ⟨a,c,h1,h2,h3⟩:=h
 exact ⟨a,c,(hb.block R (Qb h1)).trans h1,h2,Qk h3 hb⟩
theorem Q7G {w:World} {R:Nat} {v:Value} (h:w.heap[R]? = some (.cells #[v] 136 (0,0))):w.cell? ⟨R,0,none⟩=some v∧w.frozen? ⟨R,0,none⟩=false:=by
 refine ⟨?_,Qd h _⟩
 rw [Qc h]
 rfl
theorem Q2O (l:List RI) (x:RI):rcI (l++[x])=rcI l++[.string x.name,.int .i64 x.ty,.int .i64 x.cl,.int .i64 x.ttl,.string x.data]:=by
 unfold rcI; rw [List.flatMap_append]; rfl
theorem Qa1 {x1 x2 x3:Int} {x0 x4:ByteArray}:∀ v∈([.string x0,.int .i64 x1,.int .i64 x2,.int .i64 x3,.string x4]:List Value),v.oneCell'=true:=by
 intro v hv
 simp at hv
 rcases hv with rfl | rfl | rfl | rfl | rfl <;> rfl
def EvK (w w':World):Prop:=∀ (k:Nat) (cs:Array Value) (fr:Nat × Nat),w.heap[k]? = some (.cells cs 107 fr)→w'.heap[k]? = some (.cells cs 107 fr)
theorem EvK.refl (w:World):EvK w w:=fun _ _ _ h=>h
theorem EvK.trans {a b c:World} (h:EvK a b) (k:EvK b c):EvK a c:=fun i cs fr hi=>k i cs fr (h i cs fr hi)
theorem EvK.of_below {w w':World} (h:Below w.heap.size w w'):EvK w w':=fun i _ _ hi=>(h.block i (Qb hi)).trans hi
theorem EvK.owns {w w':World} (h:EvK w w') {N n:Nat} {v:Value} {xs:List Value} (ho:w.ownsRow N 107 7 v n xs):w'.ownsRow N 107 7 v n xs:=by
 refine ⟨ho.1,?_⟩
 rcases ho.2 with hn | ⟨g,cap,cur,hv,hb,hg,rest⟩
 ·exact .inl hn
 ·exact .inr ⟨g,cap,cur,hv,hb,h g _ _ hg,rest⟩
theorem Q93 {P:Program} {w:World} {o:Oper} {a:Act} {K:Act→World→Prop} {Q:Exit→Act→World→Prop} (s x:Operand) (t tx:TypeId)
  (ho:o.op=.call { callee:=.builtin .append,args:=#[s,x],argTypes:=#[t,tx] })
  (base:Nat) (e:TypeId) (i:TypeInfo) (z:Value) (size bytes:Nat) (ht:P.underlying t=some (.slice e)) (hi:P.info? e=some i) (hz:i.zero=some z)
  (hsize:i.size=size) (hby:i.bytes=bytes) (hzs:z.cells.size=size)
  (v:Value) (n:Nat) (xs:List Value) (hs:a.eval s=v) (hown:w.ownsRow base e size v n xs)
  (y:Value) (m:Nat) (news:List Value) (hx:a.eval x=y) (hsrc:Src P size tx y m news w)
  (h63:n+m≤maxLen) (hbytes:(n+m) * bytes≤140737488355328) (hbase:base≤w.heap.size)
  (h:∀ a' c' w',w'.ownsRow base e size (.slice a' (n+m) c') (n+m) (xs++news)→w.grownBy w' v.ownBlock→((Value.slice a' (n+m) c').ownBlock=v.ownBlock∨(Value.slice a' (n+m) c').ownBlock=some w.heap.size)→K (a.put o.dst (.slice a' (n+m) c')) w'):Oper.wp P o a w K Q:=by
 obtain ⟨v',w',hr,h2,h3,h4⟩:=Q3z (P:=P) w base t tx o.type e i z size bytes ht hi hz hsize hby hzs v n xs hown y m news hsrc h63 hbytes hbase
 unfold Oper.wp execOp
 simp only [ho,resolve,invoke,builtin,Sem.run_bind,Sem.run_pure,Result.andThen_ok,List.map_toArray,List.map_cons,List.map_nil,hs,hx,hr]
 obtain ⟨a',c',rfl⟩:∃ a' c',v'=.slice a' (n+m) c':=by
  rcases h2.2 with ⟨g1,g2⟩ | ⟨g,cap,cur,g1,g2⟩
  ·exact ⟨none,0,by rw [g1,g2]⟩
  ·exact ⟨_,_,g1⟩
 exact h a' c' w' h2 h3 h4
theorem Q8H {B:Nat} {a w:World} (h:Below B a w) (n:Nat):Below B a (w.drewN n):=⟨h.os,h.tape,h.output,h.size,h.block⟩
set_option maxRecDepth 100000 in
set_option maxHeartbeats 2000000 in
theorem Qb8 (N R:Nat) (l:List RI) (nm dt:ByteArray) (ty:Int) (w:World) (h:Ls w N R l) (hl:l.length≤134217728) :
  Calls Tryz.prog 94 #[.pointer (some ⟨R,0,none⟩),.string nm,.int .i64 ty,.string dt] w fun e w'=>e=.returned (.tuple #[])∧Ls w' N R (l++[Q04 nm ty dt])∧Below N w w'∧EvK w w':=by
 obtain ⟨a,c,hR,hNR,o1⟩:=h
 have hlt:=Qb hR
 obtain ⟨c0,z0⟩:=Q7G hR
 obtain ⟨i0,hi,hz0,hz1,hz2⟩:=info_parts Tryz.info61
 have Hi:=Qa hi
 have Hz0:=Qa hz0
 have Hz1:=Qa hz1
 have Hz2:=Qa hz2
 have HR:=Qa hR
 have O1:=Qa o1
 clear hi hz0 hz1 hz2 hR o1
 go_enter Tryz.func94,Tryz.ntmps94
 obtain ⟨X,hX⟩:∃ X,w.heap.size=X:=⟨_,rfl⟩
 have hneX:(Value.slice a l.length c).ownBlock≠some X:=fun he=>by have:=((Q6 O1).lt X he).2; omega
 go_wp2_with fail
 obtain ⟨w1,hw1⟩:∃ w1,w.alloc (.cells #[.string nm,.int .i64 ty,.int .i64 1,.int .i64 30,.string dt] 61)=w1:=⟨_,rfl⟩
 have hb1:Below w.heap.size w w1:=by rw [←hw1]; exact (Below.refl _ _).alloc (Nat.le_refl _) _
 have hx1:w1.heap[X]? = some (.cells #[.string nm,.int .i64 ty,.int .i64 1,.int .i64 30,.string dt] 61 (0,0)):=by rw [←hw1,←hX]; exact heap_alloc_new _ _
 rw [hw1]
 have hR1:=(hb1.block R hlt).trans (Q6 HR)
 have O2:=Qa (Qk (Q6 O1) hb1)
 obtain ⟨d0,e0⟩:=Q7G hR1
 obtain ⟨⟨x0,x1,x2,x3,x4⟩,_⟩:=Q1a hx1
 have hl1:=Qb hR1
 have hl2:=Qb hx1
 have HR1:=Qa hR1
 have HB1:=Qa hb1
 have HX1:=Qa hx1
 have hw0:w.heap.size≤w1.heap.size:=hb1.size
 have hNw:N≤w.heap.size:=by omega
 clear hw1 hb1 hR1 hx1 c0 z0 O1 HR hX
 refine wp_region_noPanic ?_
 refine Q3E (fun u=>u.cell? ⟨R,0,none⟩=some (.slice a l.length c)∧u.cell? ⟨X,0,none⟩=some (.string nm)∧u.cell? ⟨X,1,none⟩=some (.int .i64 ty)∧u.cell? ⟨X,2,none⟩=some (.int .i64 1)∧u.cell? ⟨X,3,none⟩=some (.int .i64 30)∧u.cell? ⟨X,4,none⟩=some (.string dt)) 10 (by kernel_rfl) ?_
 have hS1:w1.drew.cell? ⟨R,0,none⟩=some (.slice a l.length c)∧w1.drew.cell? ⟨X,0,none⟩=some (.string nm)∧w1.drew.cell? ⟨X,1,none⟩=some (.int .i64 ty)∧w1.drew.cell? ⟨X,2,none⟩=some (.int .i64 1)∧w1.drew.cell? ⟨X,3,none⟩=some (.int .i64 30)∧w1.drew.cell? ⟨X,4,none⟩=some (.string dt):=⟨d0,x0,x1,x2,x3,x4⟩
 refine Qq (i:=0) (v:=?_) rfl rfl (by kernel_rfl) (by kernel_rfl) (by kernel_rfl) (by kernel_rfl) (fun _ _ _ h=>h) (Or.inl ⟨by rfl,?_⟩) hS1 ?_
 rotate_left
 ·intro u hu
  obtain ⟨u0,u1,u2,u3,u4,u5⟩:=hu
  go_simp
  try with_reducible rfl
 try simp only [Act.put]
 refine Qq (i:=1) (v:=?_) rfl rfl (by kernel_rfl) (by kernel_rfl) (by kernel_rfl) (by kernel_rfl) (fun _ _ _ h=>h) (Or.inl ⟨by rfl,?_⟩) hS1 ?_
 rotate_left
 ·intro u hu
  obtain ⟨u0,u1,u2,u3,u4,u5⟩:=hu
  go_simp
  try with_reducible rfl
 try simp only [Act.put]
 refine Qq (i:=2) (v:=?_) rfl rfl (by kernel_rfl) (by kernel_rfl) (by kernel_rfl) (by kernel_rfl) (fun _ _ _ h=>h) (Or.inl ⟨by rfl,?_⟩) hS1 ?_
 rotate_left
 ·intro u hu
  obtain ⟨u0,u1,u2,u3,u4,u5⟩:=hu
  go_simp
  try with_reducible rfl
 try simp only [Act.put]
 refine Qq (i:=3) (v:=?_) rfl rfl (by kernel_rfl) (by kernel_rfl) (by kernel_rfl) (by kernel_rfl) (fun _ _ _ h=>h) (Or.inl ⟨by rfl,?_⟩) hS1 ?_
 rotate_left
 ·intro u hu
  obtain ⟨u0,u1,u2,u3,u4,u5⟩:=hu
  go_simp
  try with_reducible rfl
 try simp only [Act.put]
 refine Qq (i:=4) (v:=?_) rfl rfl (by kernel_rfl) (by kernel_rfl) (by kernel_rfl) (by kernel_rfl) (fun _ _ _ h=>h) (Or.inl ⟨by rfl,?_⟩) hS1 ?_
 rotate_left
 ·intro u hu
  obtain ⟨u0,u1,u2,u3,u4,u5⟩:=hu
  go_simp
  try with_reducible rfl
 try simp only [Act.put]
 refine Qq (i:=5) (v:=?_) rfl rfl (by kernel_rfl) (by kernel_rfl) (by kernel_rfl) (by kernel_rfl) (fun _ _ _ h=>h) (Or.inl ⟨by rfl,?_⟩) hS1 ?_
 rotate_left
 ·intro u hu
  obtain ⟨u0,u1,u2,u3,u4,u5⟩:=hu
  go_simp
  try with_reducible rfl
 try simp only [Act.put]
 refine Q1m (i:=6) rfl (by kernel_rfl) (fun K hK=>?_)
 go_simp
 have hA:Below w1.heap.size w1 (w1.alloc (.cells #[.string nm,.int .i64 ty,.int .i64 1,.int .i64 30,.string dt] 61)).drew:=Q8H ((Below.refl w1.heap.size w1).alloc (Nat.le_refl _) _) 1
 have hS2:=And.intro ((hA.cell (p:=⟨R,0,none⟩) hl1).trans hS1.1) (And.intro ((hA.cell (p:=⟨X,0,none⟩) hl2).trans hS1.2.1) (And.intro ((hA.cell (p:=⟨X,1,none⟩) hl2).trans hS1.2.2.1) (And.intro ((hA.cell (p:=⟨X,2,none⟩) hl2).trans hS1.2.2.2.1) (And.intro ((hA.cell (p:=⟨X,3,none⟩) hl2).trans hS1.2.2.2.2.1) ((hA.cell (p:=⟨X,4,none⟩) hl2).trans hS1.2.2.2.2.2)))))
 refine hK _ _ (fun _=>hS2) ?_
 clear hK K
 try simp only [Act.put]
 have O3:=Qa (Qk (Q6 O2) hA)
 have hR3:=(hA.block R hl1).trans (Q6 HR1)
 have HR3:=Qa hR3
 have HA:=Qa hA
 refine Q1m (i:=7) rfl (by kernel_rfl) (fun K hK=>?_)
 rw [if_pos (by kernel_rfl)]
 refine Q93 _ _ 27 27 rfl N 61 i0 (.agg #[.string ⟨#[]⟩,.int .i64 0,.int .i64 0,.int .i64 0,.string ⟨#[]⟩]) 5 56 Tryz.underlying27 (Q6 Hi) (Q6 Hz0) (Q6 Hz1) (Q6 Hz2) rfl (.slice a l.length c) l.length (rcI l) (by rfl) (Q6 O3) (.slice (some ⟨w1.heap.size,0,none⟩) 1 1) 1 [.string nm,.int .i64 ty,.int .i64 1,.int .i64 30,.string dt] (by rfl) (Src.ofSlice _ Tryz.underlying27 ⟨w1.heap.size,0,none⟩ 1 1 _ rfl (Q0E _ _ _ _ _ _ _ _ rfl) Qa1) (by unfold maxLen; omega) (by omega) (by show N≤(w1.alloc _).heap.size; simp; omega) ?_
 intro a1 c1 w9 hown9 hgrow9 hat9
 have hR9:=Q02 (Q6 O3) hgrow9 (Q6 HR3) (by decide)
 obtain ⟨n0,p0⟩:=Q7G hR9
 have hx9:=(hgrow9.block X (show X < (w1.alloc (.cells #[.string nm,.int .i64 ty,.int .i64 1,.int .i64 30,.string dt] 61)).heap.size by simp; omega) (fun e=>hneX e.symm)).trans ((hA.block X hl2).trans (Q6 HX1))
 obtain ⟨⟨m0,m1,m2,m3,m4⟩,_⟩:=Q1a hx9
 have hS9:w9.cell? ⟨R,0,none⟩=some (.slice a l.length c)∧w9.cell? ⟨X,0,none⟩=some (.string nm)∧w9.cell? ⟨X,1,none⟩=some (.int .i64 ty)∧w9.cell? ⟨X,2,none⟩=some (.int .i64 1)∧w9.cell? ⟨X,3,none⟩=some (.int .i64 30)∧w9.cell? ⟨X,4,none⟩=some (.string dt):=⟨n0,m0,m1,m2,m3,m4⟩
 have hl9:=Qb hR9
 refine hK _ _ (fun _=>hS9) ?_
 clear hK K
 try simp only [Act.put]
 refine Q1m (i:=8) rfl (by kernel_rfl) (fun K hK=>?_)
 go_simp
 refine hK _ _ (fun _=>hS9) ?_
 clear hK K
 try simp only [Act.put]
 refine Q1m (i:=9) rfl (by kernel_rfl) (fun K hK=>?_)
 go_simp
 refine hK _ _ (fun _=>hS9) ?_
 clear hK K
 try simp only [Act.put]
 refine Q1m (i:=10) rfl (by kernel_rfl) (fun K hK=>?_)
 go_simp
 refine hK _ _ (fun h=>absurd rfl h) (Q6p (by kernel_rfl) ?_ _)
 clear hK K
 refine NoPanic.normal ?_
 have hB9:Below N w w9:=by
  have h1:=Qn (Q6 O3) hgrow9 (by show N≤(w1.alloc _).heap.size; simp; omega)
  exact ((Q6 HB1).mono (by omega)).trans (((Q6 HA).mono (by omega)).trans h1)
 have hw:Ls (w9.setCell ⟨R,0,none⟩ (.slice a1 (l.length+1) c1)) N R (l++[Q04 nm ty dt]):=by
  refine ⟨a1,c1,?_,hNR,?_⟩
  ·rw [List.length_append]
   exact Qo hR9 0 _
  ·rw [List.length_append,Q2O]
   exact Qi hown9 hR9 (by decide) 0 _
 have hk9:EvK w (w9.setCell ⟨R,0,none⟩ (.slice a1 (l.length+1) c1)):=by
  refine ((EvK.of_below (Q6 HB1)).trans (EvK.of_below (Q6 HA))).trans fun k cs fr hk=>?_
  have h9:=Q02 (Q6 O3) hgrow9 hk (by decide)
  by_cases e:k=R
  ·subst e
   rw [hR9] at h9
   cases h9
  ·exact (Qf e 0 _).trans h9
 have HK9:=Qa hk9
 have HW:=Qa hw
 have HB9:=Qa (hB9.setCell (p:=⟨R,0,none⟩) hNR (.slice a1 (l.length+1) c1))
 clear hw hB9 hk9 hS9 hown9 hgrow9 hx9 hR9
 go_wp2_with fail
 go_end0
 exact ⟨rfl,Q6 HW,Q6 HB9,Q6 HK9⟩
theorem Q7N (w:World) (n:Nat) (h:n < 256):(w.alloc (.cells #[.int .u8 (n:Int)] 5)).ownsRow w.heap.size 5 1 (.slice (some ⟨w.heap.size,0,none⟩) 1 1) (one n).size (byteCells (one n)):=by
 refine ⟨rfl,.inr ⟨w.heap.size,1,_,rfl,Nat.le_refl _,heap_alloc_new _ _,Nat.le_refl _,by decide,rfl,?_⟩⟩
 have e:byteCells (one n)=[.int .u8 (((UInt8.ofNat n).toNat:Nat):Int)]:=rfl
 rw [e,UInt8.toNat_ofNat']
 show [_]=_
 congr 2
 omega
set_option maxRecDepth 100000 in
set_option maxHeartbeats 1000000 in
theorem Qbe (s:ByteArray) (w:World) (h:s.size < 256):Calls Tryz.prog 131 #[.string s] w fun e w'=>e=.returned (.string (one s.size++s))∧Below w.heap.size w w':=by
 have HO:=Qa (Q7N w s.size h)
 have h1:(one s.size).size=1:=rfl
 obtain ⟨y,hy⟩:∃ y,one s.size=y:=⟨_,rfl⟩
 rw [hy] at HO h1 ⊢
 clear hy
 go_enter Tryz.func131,Tryz.ntmps131
 go_wp2_with fail
 rw [Q1v _ 128 9 5 Tryz.underlying128 Tryz.underlying5 Tryz.underlying9 w.heap.size _ y (Q6 HO)]
 go_wp2_with fail
 go_ret
 exact ⟨rfl,(Below.refl _ _).alloc (Nat.le_refl _) _⟩
set_option maxRecDepth 100000 in
set_option maxHeartbeats 1000000 in
theorem Q98 (s:ByteArray) (w:World) (h:s.size < 256):Calls Tryz.prog 130 #[.string s] w fun e w'=>e=.returned (.string (Qj s))∧Below w.heap.size w w':=by
 have hz:(one s.size++s).size=1+s.size:=by rw [ByteArray.size_append]; rfl
 obtain ⟨r,hr⟩:∃ r,Qj s=r:=⟨_,rfl⟩
 have hr2:one s.size++s++Qm=r:=hr
 rw [hr]
 have HR:=Qa hr2
 have key:=Qbe s w h
 generalize one s.size++s=y at *
 have Key:=Qa key
 clear hr hr2 key
 go_enter Tryz.func130,Tryz.ntmps130
 go_wp2_with fail
 refine (Q6 Key).mono ?_
 rintro e w1 ⟨rfl,hb1⟩
 go_wp2_with fail
 go_ret
 exact ⟨by rw [←Q6 HR]; rfl,hb1⟩
def Qfc (n:Nat):Nat→Nat
 | 0=>n
 | 1=>3600
 | 2=>600
 | 3=>86400
 | _=>30
def QdP (n:Nat):Nat→ByteArray
 | 0=>Q0D++Q89
 | j+1=>QdP n j++q4 (Qfc n j)
theorem Qaq (n:Nat):∀ j,(QdP n j).size=29+4 * j
 | 0=>rfl
 | j+1=>by
  show (QdP n j++q4 (Qfc n j)).size=_
  rw [ByteArray.size_append,Qaq n j,Q2C]
  omega
theorem QkN (n j:Nat) (h:n < 4294967296):Qfc n j < 4294967296:=by
 unfold Qfc
 split <;> omega
theorem Qjf {w:World} {B n:Nat} {t:TypeId} (h:w.heap[B]? = some (.cells #[.int .i64 n,.int .i64 3600,.int .i64 600,.int .i64 86400,.int .i64 30] t (0,0))) (j:Nat) (hj:j < 5):w.cell? ⟨B,j,none⟩=some (.int .i64 (Qfc n j:Nat)):=by
 rw [Qc h]
 match j,hj with
 | 0,_=>rfl
 | 1,_=>rfl
 | 2,_=>rfl
 | 3,_=>rfl
 | 4,_=>rfl
set_option maxRecDepth 100000 in
set_option maxHeartbeats 2000000 in
theorem Qms (n:Nat) (w:World) (h:n < 4294967296):Calls Tryz.prog 93 #[.int .i64 n] w fun e w'=>e=.returned (.string (Q5U n))∧Below w.heap.size w w':=by
 obtain ⟨B,hB⟩:∃ B,w.heap.size=B:=⟨_,rfl⟩
 have HSz:=Qa (Qaq n)
 have HN:=Qa (fun j=>QkN n j h)
 have HBq:=Qa hB
 go_enter Tryz.func93,Tryz.ntmps93
 go_wp2_with fail
 have hblk:=heap_alloc_new w (.cells #[.int .i64 n,.int .i64 3600,.int .i64 600,.int .i64 86400,.int .i64 30] 174)
 have hb0:=(Below.refl w.heap.size w).alloc (Nat.le_refl _) (.cells #[.int .i64 n,.int .i64 3600,.int .i64 600,.int .i64 86400,.int .i64 30] 174)
 rw [hB] at hblk hb0
 have HK:=Qa hblk
 have HB0:=Qa hb0
 have hs0:B < (w.alloc (.cells #[.int .i64 n,.int .i64 3600,.int .i64 600,.int .i64 86400,.int .i64 30] 174)).heap.size:=by simp; omega
 clear hblk hb0 hB
 generalize w.alloc (.cells #[.int .i64 n,.int .i64 3600,.int .i64 600,.int .i64 86400,.int .i64 30] 174)=w1 at *
 go_loopw [3,5] (fun s i w'=>∃ (j:Nat) (d:ByteArray),j≤5∧i=.int .i64 j∧s=.string d∧Hid (QdP n j=d)∧Hid (w'.heap[B]? = some (.cells #[.int .i64 n,.int .i64 3600,.int .i64 600,.int .i64 86400,.int .i64 30] 174 (0,0)))∧Hid (Below B w w')∧B < w'.heap.size) (fun _ i _=>5 - (intOf i).toNat)
 case atStart=>exact ⟨0,_,Nat.zero_le _,rfl,rfl,Qa rfl,HK,HB0,hs0⟩
 case round =>
  obtain ⟨j,d,hj,rfl,rfl,HD,HK,HB,hs⟩:=hrel
  have hz:=Q6 HSz j
  rw [Q6 HD] at hz
  by_cases cj:j < 5
  ·have x0:=Qjf (Q6 HK) j cj
   have hn:=Q6 HN j
   have hD2:QdP n (j+1)=d++q4 (Qfc n j):=by rw [←Q6 HD]; rfl
   have HD2:=Qa hD2
   generalize Qfc n j=m at *
   clear hD2
   go_wp2_with fail
   refine (QcW m _ hn).mono ?_
   rintro e w2 ⟨rfl,hb2⟩
   have hq:=Q2C m
   generalize q4 m=q at *
   have HK2:=Qa ((hb2.block B hs).trans (Q6 HK))
   have HB2:=Qa ((Q6 HB).trans (hb2.mono (Nat.le_of_lt hs)))
   have hs2:B < w2.heap.size:=Nat.lt_of_lt_of_le hs hb2.size
   clear hb2
   go_wp2_with fail
   go_roundw
   case rel=>exact ⟨j+1,_,by omega,by go_num,rfl,HD2,HK2,HB2,hs2⟩
   case measure=>simp [intOf]; omega
  ·have ej:j=5:=by omega
   subst ej
   have hd:Q5U n=d:=Q6 HD
   have HD2:=Qa hd
   clear hd hz
   go_wp2_with fail
   go_ret
   exact ⟨by rw [Q6 HD2]; rfl,by rw [Q6 HBq]; exact Q6 HB⟩
def QhF (up:List Ev):Prop:=∀ i (h:i < up.length),up[i].node.size≤15∧(up[i].addr.size=4∨up[i].addr.size=16)∧0≤up[i].port∧up[i].port≤65535∧up[i].text.size≤60∧up[i].alias.size≤15
theorem Q77 (up:List Ev) (j:Nat) (h:j < up.length):(up.take (j+1)).flatMap Q0y=(up.take j).flatMap Q0y++Q0y up[j]:=by
 rw [List.take_succ_eq_append_getElem h,List.flatMap_append]
 simp
theorem QgV (e:Ev):1≤(Q0y e).length∧(Q0y e).length≤2:=by
 unfold Q0y
 rw [List.length_cons]
 by_cases c:e.text=⟨#[]⟩
 ·rw [if_pos c]; simp
 ·rw [if_neg c]; simp
theorem Q52 (up:List Ev):∀ j,((up.take j).flatMap Q0y).length≤2 * j
 | 0=>by simp
 | j+1=>by
  have ih:=Q52 up j
  rcases Nat.lt_or_ge j up.length with h | h
  ·rw [Q77 up j h,List.length_append]
   have:=(QgV up[j]).2
   omega
  ·rw [List.take_of_length_le (by omega)]
   rw [List.take_of_length_le h] at ih
   omega
set_option maxRecDepth 100000 in
set_option maxHeartbeats 4000000 in
theorem Qe7 (N R:Nat) (l:List RI) (up:List Ev) (a:Option Addr) (c:Nat) (w:World) (h:Ls w N R l) (hrow:RowAt w N a (evC up)) (hup:up.length≤33554432) (hl:l.length≤33554432) (hok:QhF up) :
  Calls Tryz.prog 95 #[.pointer (some ⟨R,0,none⟩),.slice a up.length c] w fun e w'=>e=.returned (.tuple #[])∧Ls w' N R (l++up.flatMap Q0y)∧Below N w w':=by
 have HLs:=Qa h
 have HRow:=Qa hrow
 have HOk:=Qa hok
 have HT:=Qa (Q77 up)
 have HTL:=Qa (Q52 up)
 clear h hrow hok
 go_enter Tryz.func95,Tryz.ntmps95
 go_wp2_with fail
 go_loopw [4] (fun i w'=>∃ (j:Nat),j≤up.length∧i=.int .i64 j∧Hid (Ls w' N R (l++(up.take j).flatMap Q0y))∧Hid (Below N w w')) (fun i _=>up.length - (intOf i).toNat)
 case atStart=>exact ⟨0,Nat.zero_le _,rfl,Qa (by simpa using Q6 HLs),Qa (Below.refl _ _)⟩
 case round =>
  obtain ⟨j,hj,rfl,HL,HB⟩:=hrel
  obtain ⟨hNR,hRl⟩:=(Q6 HL).lt
  by_cases cj:j < up.length
  ·obtain ⟨b,o,rfl,hb,x0,x1,x2,x3,x4,x5,x6⟩:=Q2K ((Q6 HRow).below (Q6 HB)) j cj
   obtain ⟨s1,s2,s3,s4,s5,s6⟩:=Q6 HOk j cj
   have ht:=Q6 HT j cj
   have htl:=Q6 HTL j
   generalize hX:(up.take j).flatMap Q0y=X at *
   clear hX
   have hlx:(l++X).length≤134217726:=by rw [List.length_append]; omega
   generalize up[j]=k at *
   obtain ⟨kd,nd,ic,ad,pt,tx,al⟩:=k
   simp only at x0 x1 x2 x3 x4 x5 x6 s1 s2 s3 s4 s5 s6 ht
   have hRes:∀ Y,Y=(l++X)++Q0y ⟨kd,nd,ic,ad,pt,tx,al⟩→Y=l++(up.take (j+1)).flatMap Q0y:=fun Y h=>by rw [h,ht,List.append_assoc]
   have HRes:=Qa hRes
   clear ht htl hRes
   have kadd:=fun (W:World) (ty:Int) (h:Ls W N R (l++X))=>Qb8 N R (l++X) (Qj nd) ad ty W h (by omega)
   have KAdd:=Qa kadd
   clear kadd
   obtain ⟨ty,hty⟩:∃ ty:Int,(if ad.size=16 then (28:Int) else 1)=ty:=⟨_,rfl⟩
   have kbel:=fun (W:World)=>Q98 nd W (by omega)
   have KBel:=Qa kbel
   clear kbel
   generalize hun:Qj nd=un at *
   have hN1:Q0y ⟨kd,nd,ic,ad,pt,tx,al⟩=Q04 un ty ad :: (if tx=⟨#[]⟩ then [] else [Q04 un 16 (one tx.size++tx)]):=by unfold Q0y; simp only; rw [hty,hun]
   have HN1:=Qa hN1
   clear hN1 hun
   have hcase:(((ad.size:Int) == 16)=true∧ty=28)∨(((ad.size:Int) == 16)=false∧ty=1):=by
    rcases s2 with q | q
    ·exact .inr ⟨beq_eq_false_iff_ne.2 (by omega),by rw [←hty,if_neg (by omega)]⟩
    ·exact .inl ⟨by rw [beq_iff_eq]; omega,by rw [←hty,if_pos q]⟩
   clear hty
   have hbN:b < wr.heap.size:=by omega
   rcases hcase with ⟨d16,rfl⟩ | ⟨d16,rfl⟩
   all_goals
    go_wp2_with fail
    refine (Q6 KBel _).mono ?_
    rintro e w1 ⟨rfl,hb1⟩
    have HL1:=Qa ((Q6 HL).below hb1)
    have y3:=(hb1.cell (p:=⟨b,o+j * 7+3,none⟩) hbN).trans x3
    have y5:=(hb1.cell (p:=⟨b,o+j * 7+5,none⟩) hbN).trans x5
    have HB1:=Qa ((Q6 HB).trans (hb1.mono (by omega)))
    have hb1s:b < w1.heap.size:=Nat.lt_of_lt_of_le hbN hb1.size
    clear hb1 x0 x1 x2 x3 x4 x5 x6
    go_wp2_with fail
    refine (Q6 KAdd _ _ (Q6 HL1)).mono ?_
    rintro e w2 ⟨rfl,hL2,hb2,_⟩
    have z5:=(hb2.cell (p:=⟨b,o+j * 7+5,none⟩) hb).trans y5
    have HL2:=Qa hL2
    have HB2:=Qa ((Q6 HB1).trans hb2)
    have hN2:=hL2.lt.1
    have hR2:=hL2.lt.2
    clear y3 y5 hL2 hb2
    by_cases ct:tx=⟨#[]⟩
    ·have e0:tx.toList.isEmpty=true:=(Q17 tx).2 ct
     have hn1:=Q6 HN1
     rw [if_pos ct] at hn1
     have HFin:=Qa (Q6 HRes _ (by rw [hn1]))
     clear hn1 ct
     go_wp2_with fail
     go_roundw
     case rel=>exact ⟨j+1,by omega,by go_num,Qa (by rw [←Q6 HFin]; exact Q6 HL2),HB2⟩
     case measure=>simp [intOf]; omega
    ·have e0:tx.toList.isEmpty=false:=by
      cases e:tx.toList.isEmpty with
      | false=>rfl
      | true=>exact absurd ((Q17 tx).1 e) ct
     have hn1:=Q6 HN1
     rw [if_neg ct] at hn1
     have HFin:=Qa (Q6 HRes _ (by rw [hn1]))
     clear hn1 ct
     go_wp2_with fail
     refine (Qbe tx _ (by omega)).mono ?_
     rintro e w3 ⟨rfl,hb3⟩
     have HL3:=Qa ((Q6 HL2).below hb3)
     have HB3:=Qa ((Q6 HB2).trans (hb3.mono (by omega)))
     clear hb3
     generalize one tx.size++tx=dd at *
     go_wp2_with fail
     refine (Qb8 N R _ un dd 16 _ (Q6 HL3) (by rw [List.length_append]; show (l++X).length+1≤_; omega)).mono ?_
     rintro e w4 ⟨rfl,hL4,hb4,_⟩
     have HL4:=Qa hL4
     have HB4:=Qa ((Q6 HB3).trans hb4)
     clear hL4 hb4
     go_wp2_with fail
     go_roundw
     case rel =>
      refine ⟨j+1,by omega,by go_num,Qa ?_,HB4⟩
      rw [←Q6 HFin]
      have:=Q6 HL4
      rw [List.append_assoc] at this
      exact this
     case measure=>simp [intOf]; omega
  ·have ej:j=up.length:=by omega
   subst ej
   have hL:=Q6 HL
   rw [List.take_length] at hL
   have HL2:=Qa hL
   clear hL
   go_wp2_with fail
   go_end0
   exact ⟨rfl,Q6 HL2,Q6 HB⟩
theorem map_take {α β:Type} (f:α→β) (l:List α) (j:Nat) (h:j < l.length):(l.take (j+1)).map f=(l.take j).map f++[f l[j]]:=by
 rw [List.take_succ_eq_append_getElem h,List.map_append]
 rfl
theorem Q7v {up:List Ev} {L:List En}:∀ {n:Nat} {e:Ev},e∈Q2v up L n→∃ x,x∈L∧x.ev=e
 | 0,e,h=>by simp [Q2v] at h
 | n+1,e,h=>by
  unfold Q2v at h
  split at h
  ·next hn =>
   split at h
   ·exact Q7v h
   ·rcases List.mem_append.1 h with h | h
    ·exact Q7v h
    ·rw [List.mem_singleton] at h
     exact ⟨_,List.getElem_mem hn,h.symm⟩
  ·exact Q7v h
theorem Qfq {up:List Ev} {n:Nat} {e:Ev} (h:e∈Q2v up (Q0g (Q0d up)) n):e∈up:=by
 obtain ⟨x,hx,rfl⟩:=Q7v h
 obtain ⟨y,hy,rfl⟩:=List.mem_map.1 (Q45.1 hx)
 exact (List.mem_filter.1 hy).1
theorem Q7u (up:List Ev) (L:List En):∀ n,(Q2v up L n).length≤n
 | 0=>by simp [Q2v]
 | n+1=>by
  have ih:=Q7u up L n
  unfold Q2v
  split
  ·split
   ·omega
   ·rw [List.length_append]; simp; omega
  ·omega
set_option maxRecDepth 100000 in
set_option maxHeartbeats 4000000 in
theorem QbU (N R:Nat) (l:List RI) (up:List Ev) (a:Option Addr) (c:Nat) (w:World) (h:Ls w N R l) (hrow:RowAt w N a (evC up)) (hup:up.length≤33554432) (hl:l.length≤67108864) (hok:QhF up) (hri:Q3H up) :
  Calls Tryz.prog 96 #[.pointer (some ⟨R,0,none⟩),.slice a up.length c] w fun e w'=>e=.returned (.tuple #[])∧Ls w' N R (l++(Q2v up (Q0g (Q0d up)) (Q0g (Q0d up)).length).map cnR)∧Below N w w':=by
 obtain ⟨hNR0,hR0⟩:=h.lt
 have key:=Qgl up a c N w hrow (by omega) hup hri
 have hln:(Q2v up (Q0g (Q0d up)) (Q0g (Q0d up)).length).length≤up.length:=by
  have h1:=Q7u up (Q0g (Q0d up)) (Q0g (Q0d up)).length
  rw [Q0Y] at h1
  have h2:=Q4V up up.length
  rw [List.take_length] at h2
  rw [Q0Y]
  omega
 have hsz:∀ i (hi:i < (Q2v up (Q0g (Q0d up)) (Q0g (Q0d up)).length).length),(Q2v up (Q0g (Q0d up)) (Q0g (Q0d up)).length)[i].node.size≤15∧(Q2v up (Q0g (Q0d up)) (Q0g (Q0d up)).length)[i].alias.size≤15:=fun i hi=>by
  obtain ⟨k,hk,he⟩:=List.mem_iff_getElem.1 (Qfq (List.getElem_mem hi))
  rw [←he]
  have:=hok k hk
  exact ⟨this.1,this.2.2.2.2.2⟩
 generalize hA:Q2v up (Q0g (Q0d up)) (Q0g (Q0d up)).length=A at *
 have HLs:=Qa h
 have HSz:=Qa hsz
 have Key:=Qa key
 have HT:=Qa (map_take cnR A)
 clear h hrow hok key hsz hA
 go_enter Tryz.func96,Tryz.ntmps96
 go_wp2_with fail
 refine (Q6 Key).mono ?_
 rintro e w1 ⟨a1,c1,rfl,o1,b1⟩
 have HL1:=Qa ((Q6 HLs).below b1)
 have HO1:=Qa o1
 have HB1:=Qa (b1.mono (show N≤w.heap.size by omega))
 clear o1 b1 Key HLs
 go_wp2_with fail
 go_loopw [5] (fun i w'=>∃ (j:Nat),j≤A.length∧i=.int .i64 j∧Hid (Ls w' N R (l++(A.take j).map cnR))∧Hid (Below N w w')∧Hid (w'.ownsRow w.heap.size 107 7 (.slice a1 A.length c1) A.length (evC A))) (fun i _=>A.length - (intOf i).toNat)
 case atStart=>exact ⟨0,Nat.zero_le _,rfl,Qa (by simpa using Q6 HL1),HB1,HO1⟩
 case round =>
  clear HL1 HB1 HO1
  obtain ⟨j,hj,rfl,HL,HB,HO⟩:=hrel
  obtain ⟨hNR,hRl⟩:=(Q6 HL).lt
  by_cases cj:j < A.length
  ·obtain ⟨b,o,rfl,hb,x0,x1,x2,x3,x4,x5,x6⟩:=Q2K (Q0u (Q6 HO)) j cj
   obtain ⟨s1,s2⟩:=Q6 HSz j cj
   have ht:=Q6 HT j cj
   have hll:(l++(A.take j).map cnR).length≤134217727:=by rw [List.length_append,List.length_map,List.length_take]; omega
   have hRes:l++(A.take (j+1)).map cnR=(l++(A.take j).map cnR)++[cnR A[j]]:=by rw [ht,List.append_assoc]
   have HRes:=Qa hRes
   clear ht hRes
   generalize hX:l++(A.take j).map cnR=X at *
   clear hX
   generalize A[j]=k at *
   obtain ⟨kd,nd,ic,ad,pt,tx,al⟩:=k
   simp only at x0 x1 x2 x3 x4 x5 x6 s1 s2 HRes
   have kb1:=fun (W:World)=>Q98 al W (by omega)
   have kb2:=fun (W:World)=>Q98 nd W (by omega)
   have hcn:cnR ⟨kd,nd,ic,ad,pt,tx,al⟩=Q04 (Qj al) 5 (Qj nd):=rfl
   rw [hcn] at HRes
   generalize Qj al=ual at *
   generalize Qj nd=und at *
   have KB1:=Qa kb1
   have KB2:=Qa kb2
   clear kb1 kb2 hcn
   go_wp2_with fail
   refine (Q6 KB1 _).mono ?_
   rintro e w2 ⟨rfl,hb2⟩
   have y1:=(hb2.cell (p:=⟨b,o+j * 7+1,none⟩) hb).trans x1
   have HL2:=Qa ((Q6 HL).below hb2)
   have HB2:=Qa ((Q6 HB).trans (hb2.mono (show N≤wr.heap.size by omega)))
   have HO2:=Qa (Qk (Q6 HO) hb2)
   have hs2:wr.heap.size≤w2.heap.size:=hb2.size
   clear hb2 x0 x1 x2 x3 x4 x5 x6
   go_wp2_with fail
   refine (Q6 KB2 _).mono ?_
   rintro e w3 ⟨rfl,hb3⟩
   have HL3:=Qa ((Q6 HL2).below hb3)
   have HB3:=Qa ((Q6 HB2).trans (hb3.mono (show N≤w2.heap.size by omega)))
   have HO3:=Qa (Qk (Q6 HO2) hb3)
   clear hb3 y1
   go_wp2_with fail
   refine (Qb8 N R X ual und 5 _ (Q6 HL3) (by omega)).mono ?_
   rintro e w4 ⟨rfl,hL4,hb4,hk4⟩
   have HL4:=Qa hL4
   have HB4:=Qa ((Q6 HB3).trans hb4)
   have HO4:=Qa (hk4.owns (Q6 HO3))
   clear hL4 hb4 hk4
   go_wp2_with fail
   go_roundw
   case rel=>exact ⟨j+1,by omega,by go_num,Qa (by rw [Q6 HRes]; exact Q6 HL4),HB4,HO4⟩
   case measure=>simp [intOf]; omega
  ·have ej:j=A.length:=by omega
   subst ej
   have hL:=Q6 HL
   rw [List.take_length] at hL
   have HL2:=Qa hL
   clear hL
   go_wp2_with fail
   go_end0
   exact ⟨rfl,Q6 HL2,Q6 HB⟩
theorem QkX:wd 0++wd 0=q4 0:=rfl
set_option maxRecDepth 100000 in
set_option maxHeartbeats 4000000 in
theorem QaK (N R:Nat) (l:List RI) (up:List Ev) (a:Option Addr) (c:Nat) (w:World) (h:Ls w N R l) (hrow:RowAt w N a (evC up)) (hup:up.length≤33554432) (hl:l.length≤100663296) (hok:QhF up) :
  Calls Tryz.prog 97 #[.pointer (some ⟨R,0,none⟩),.slice a up.length c] w fun e w'=>e=.returned (.tuple #[])∧Ls w' N R (l++up.map Q1q)∧Below N w w':=by
 have HLs:=Qa h
 have HRow:=Qa hrow
 have HOk:=Qa hok
 have HT:=Qa (map_take Q1q up)
 clear h hrow hok
 go_enter Tryz.func97,Tryz.ntmps97
 go_wp2_with fail
 go_loopw [4] (fun i w'=>∃ (j:Nat),j≤up.length∧i=.int .i64 j∧Hid (Ls w' N R (l++(up.take j).map Q1q))∧Hid (Below N w w')) (fun i _=>up.length - (intOf i).toNat)
 case atStart=>exact ⟨0,Nat.zero_le _,rfl,Qa (by simpa using Q6 HLs),Qa (Below.refl _ _)⟩
 case round =>
  obtain ⟨j,hj,rfl,HL,HB⟩:=hrel
  obtain ⟨hNR,hRl⟩:=(Q6 HL).lt
  by_cases cj:j < up.length
  ·obtain ⟨b,o,rfl,hb,x0,x1,x2,x3,x4,x5,x6⟩:=Q2K ((Q6 HRow).below (Q6 HB)) j cj
   obtain ⟨s1,s2,s3,s4,s5,s6⟩:=Q6 HOk j cj
   have ht:=Q6 HT j cj
   have hll:(l++(up.take j).map Q1q).length≤134217727:=by rw [List.length_append,List.length_map,List.length_take]; omega
   have hRes:l++(up.take (j+1)).map Q1q=(l++(up.take j).map Q1q)++[Q1q up[j]]:=by rw [ht,List.append_assoc]
   have HRes:=Qa hRes
   clear ht hRes
   generalize hX:l++(up.take j).map Q1q=X at *
   clear hX
   generalize up[j]=k at *
   obtain ⟨kd,nd,ic,ad,pt,tx,al⟩:=k
   simp only at x0 x1 x2 x3 x4 x5 x6 s1 s2 s3 s4 s5 s6 HRes
   obtain ⟨pn,rfl⟩:=Int.eq_ofNat_of_zero_le s3
   have kw0:=fun (W:World)=>Q9h 0 0 W rfl (by omega)
   have kw1:=fun (W:World)=>Q86 pn W (by omega)
   have kb2:=fun (W:World)=>Q98 nd W (by omega)
   have hsv:Q1q ⟨kd,nd,ic,ad,(pn:Int),tx,al⟩=Q04 Q36 33 (wd 0++wd 0++wd pn++Qj nd):=by
    unfold Q1q
    simp only [Int.toNat_natCast]
    rw [QkX]
   rw [hsv] at HRes
   have hz0:=Q00 0
   have hz1:=Q00 pn
   have hz2:(Qj nd).size=1+nd.size+10:=by unfold Qj; rw [ByteArray.size_append,ByteArray.size_append]; rfl
   generalize wd 0=w0 at *
   generalize wd pn=wp at *
   generalize Qj nd=und at *
   have KW0:=Qa kw0
   have KW1:=Qa kw1
   have KB2:=Qa kb2
   have hbN:b < wr.heap.size:=by omega
   clear kw0 kw1 kb2 hsv
   go_wp2_with fail
   refine (Q6 KW0 _).mono ?_
   rintro e w1 ⟨rfl,hb1⟩
   have y1:=(hb1.cell (p:=⟨b,o+j * 7+1,none⟩) hbN).trans x1
   have y4:=(hb1.cell (p:=⟨b,o+j * 7+4,none⟩) hbN).trans x4
   have HL1:=Qa ((Q6 HL).below hb1)
   have HB1:=Qa ((Q6 HB).trans (hb1.mono (show N≤wr.heap.size by omega)))
   have hs1:wr.heap.size≤w1.heap.size:=hb1.size
   clear hb1 x0 x1 x2 x3 x4 x5 x6
   go_wp2_with fail
   refine (Q6 KW1 _).mono ?_
   rintro e w2 ⟨rfl,hb2⟩
   have z1:=(hb2.cell (p:=⟨b,o+j * 7+1,none⟩) (show b < w1.heap.size by omega)).trans y1
   have HL2:=Qa ((Q6 HL1).below hb2)
   have HB2:=Qa ((Q6 HB1).trans (hb2.mono (show N≤w1.heap.size by omega)))
   have hs2:wr.heap.size≤w2.heap.size:=Nat.le_trans hs1 hb2.size
   clear hb2 y1 y4
   go_wp2_with fail
   refine (Q6 KB2 _).mono ?_
   rintro e w3 ⟨rfl,hb3⟩
   have HL3:=Qa ((Q6 HL2).below hb3)
   have HB3:=Qa ((Q6 HB2).trans (hb3.mono (show N≤w2.heap.size by omega)))
   clear hb3 z1
   have e1:(w0++w0).size=4:=by rw [ByteArray.size_append]; omega
   have e2:(w0++w0++wp).size=6:=by rw [ByteArray.size_append]; omega
   go_wp2_with fail
   refine (Qb8 N R X Q36 (w0++w0++wp++und) 33 _ (Q6 HL3) (by omega)).mono ?_
   rintro e w4 ⟨rfl,hL4,hb4,_⟩
   have HL4:=Qa hL4
   have HB4:=Qa ((Q6 HB3).trans hb4)
   clear hL4 hb4
   go_wp2_with fail
   go_roundw
   case rel=>exact ⟨j+1,by omega,by go_num,Qa (by rw [Q6 HRes]; exact Q6 HL4),HB4⟩
   case measure=>simp [intOf]; omega
  ·have ej:j=up.length:=by omega
   subst ej
   have hL:=Q6 HL
   rw [List.take_length] at hL
   have HL2:=Qa hL
   clear hL
   go_wp2_with fail
   go_end0
   exact ⟨rfl,Q6 HL2,Q6 HB⟩
def Q2u (w:World) (l:List RI) (e:Ending) (w':World):Prop :=
 ∃ (a:Option Addr) (c:Nat),e=.returned (.slice a l.length c)∧w'.ownsRow w.heap.size 61 5 (.slice a l.length c) l.length (rcI l)∧Below w.heap.size w w'
theorem Qjy {l:List Ev} {e:Ev} (h:e∈upM l):Q2i e∧e.kind=1:=by
 rw [Q5H] at h
 obtain ⟨i,_,hc,hk,rfl⟩:=((Q6k l).2 e).1 h
 exact ⟨hc.1,hk⟩
theorem Qjz (l:List Ev):QhF (upM l):=by
 intro i hi
 obtain ⟨hg,hk⟩:=Qjy (List.getElem_mem hi)
 obtain ⟨h1,_,_,h4⟩:=hg
 rcases h4 with h4 | ⟨_,h5,h6,h7,h8,h9⟩
 ·rw [hk] at h4; exact absurd h4 (by decide)
 ·refine ⟨h1.2.2,h6,h7,h8,h9,?_⟩
  rcases h5 with h5 | h5
  ·rw [h5]; exact Nat.zero_le _
  ·exact h5.2.2
theorem Qhs (l:List Ev):Q3H (upM l):=by rw [Q5H]; exact (Q6k l).1
theorem Qgm (l:List Ev):(Q3I l).length≤l.length:=by unfold Q3I; exact List.length_filter_le _ _
theorem Qjw (l:List Ev):Q3I (QaP (Q0g (Q1b (Q1e l))))=upM l:=rfl
theorem Qcq (l:List Ev):(upM l).length≤l.length:=by
 rw [←Qjw]
 have h1:=Qgm (QaP (Q0g (Q1b (Q1e l))))
 have h2:=Qfy (Q0g (Q1b (Q1e l)))
 rw [Q0Y] at h2
 have h3:(Q1b (Q1e l)).length=(Q1e l).length:=by unfold Q1b; rw [List.length_map]
 have h4:=Q9F l l.length
 rw [List.take_length] at h4
 omega
theorem Q9K (l:List Ev):0≤Q8i (Q1e l)∧Q8i (Q1e l)≤2147483647:=by
 rw [Q9L]
 have:∀ n,0≤Q2S l n∧Q2S l n≤2147483647:=by
  intro n
  induction n with
  | zero=>exact ⟨Int.le_refl _,by unfold Q2S; decide⟩
  | succ n ih =>
   unfold Q2S
   split
   ·next h=>exact ⟨h.1.2.1,h.1.2.2.1⟩
   ·exact ih
 exact this _
set_option maxRecDepth 100000 in
set_option maxHeartbeats 4000000 in
theorem QbC (l:List Ev) (a:Option Addr) (c N:Nat) (w:World) (hrow:RowAt w N a (evC l)) (hN:N≤w.heap.size) (hl:l.length≤16777216) (hz:Q2d l) :
  Calls Tryz.prog 58 #[.slice a l.length c] w fun e w'=>Q2u w (Qg l) e w':=by
 have k1:=Qev l a c N w hrow hN (by omega) hz
 have K1:=Qa k1
 have hgl:=Q9F l l.length
 rw [List.take_length] at hgl
 obtain ⟨hi0,hi1⟩:=Q9K l
 have hok:=Qjz l
 have hri:=Qhs l
 have hul:=Qcq l
 have heq:=Qjw l
 have HOk:=Qa hok
 have HRi:=Qa hri
 have HEq:=Qa heq
 obtain ⟨res,hres⟩:∃ r,Qg l=r:=⟨_,rfl⟩
 have HRes:=Qa hres
 clear k1 hrow hz hok hri heq hres
 go_enter Tryz.func58,Tryz.ntmps58
 go_wp2_with fail
 refine (Q6 K1).mono ?_
 rintro e w1 ⟨a1,c1,rfl,o1,b1⟩
 have k2:=Qew (Q1e l) a1 c1 w1.heap.size w1 (Q0u o1) (by omega)
 have k3:=Qhr (Q1e l) a1 c1 w1.heap.size w1 (Q0u o1) (Nat.le_refl _) (by omega)
 rw [Q6 HEq] at k3
 have K2:=Qa k2
 have K3:=Qa k3
 have HB1:=Qa b1
 have hs1:w.heap.size≤w1.heap.size:=b1.size
 clear k2 k3 o1 b1
 go_wp2_with fail
 refine (Q6 K2).mono ?_
 rintro e w2 ⟨rfl,rfl⟩
 go_wp2_with fail
 refine (Q6 K3).mono ?_
 rintro e w3 ⟨a3,c3,rfl,o3,b3⟩
 have HRow:=Qa (Q0u o3)
 have HB3:=Qa ((Q6 HB1).trans (b3.mono hs1))
 have hs3:w.heap.size≤w3.heap.size:=Nat.le_trans hs1 b3.size
 obtain ⟨sn,hsn⟩:=Int.eq_ofNat_of_zero_le hi0
 have hresm:Qg l=[Q04 Qm 6 (Q5U sn)]++[Q04 Qm 2 Q0D]++(upM l).flatMap Q0y++(Q2v (upM l) (Q0g (Q0d (upM l))) (Q0g (Q0d (upM l))).length).map cnR++(upM l).map Q1q:=by
  unfold Qg
  rw [hsn,Int.toNat_natCast]
  rfl
 rw [hsn] at hi1 ⊢
 have hal:(Q2v (upM l) (Q0g (Q0d (upM l))) (Q0g (Q0d (upM l))).length).length≤(upM l).length:=by
  have h1:=Q7u (upM l) (Q0g (Q0d (upM l))) (Q0g (Q0d (upM l))).length
  rw [Q0Y] at h1
  have h2:=Q4V (upM l) (upM l).length
  rw [List.take_length] at h2
  rw [Q0Y]
  omega
 have HResM:=Qa hresm
 clear o3 b3 K1 K2 K3 hsn hresm
 obtain ⟨N3,hN3⟩:∃ N3,w3.heap.size=N3:=⟨_,rfl⟩
 rw [hN3] at HRow hs3
 go_wp2_with fail
 have hL4:Ls (w3.alloc (.cells #[.slice none 0 0] 136)) N3 N3 []:=⟨none,0,by rw [←hN3]; exact heap_alloc_new _ _,Nat.le_refl _,World.ownsRow_nil _ _ _ _⟩
 have hb4:=(Below.refl N3 w3).alloc (by omega) (.cells #[.slice none 0 0] 136)
 have hs4:N3≤(w3.alloc (.cells #[.slice none 0 0] 136)).heap.size:=by simp; omega
 have HL4:=Qa hL4
 have HRow4:=Qa ((Q6 HRow).below hb4)
 have HB4:=Qa ((Q6 HB3).trans (hb4.mono hs3))
 clear hL4 hb4 HRow hN3
 generalize w3.alloc (.cells #[.slice none 0 0] 136)=w4 at *
 refine (Qms sn _ (by omega)).mono ?_
 rintro e w5 ⟨rfl,hb5⟩
 have HL5:=Qa ((Q6 HL4).below hb5)
 have HRow5:=Qa ((Q6 HRow4).below (hb5.mono hs4))
 have HB5:=Qa ((Q6 HB4).trans (hb5.mono (Nat.le_trans hs3 hs4)))
 clear hb5 HL4 HRow4 HB4
 go_wp2_with fail
 refine (Qb8 N3 N3 [] Qm (Q5U sn) 6 _ (Q6 HL5) (by simp)).mono ?_
 rintro e w6 ⟨rfl,hL6,hb6,_⟩
 have HL6:=Qa hL6
 have HRow6:=Qa ((Q6 HRow5).below hb6)
 have HB6:=Qa ((Q6 HB5).trans (hb6.mono hs3))
 clear hb6 hL6 HL5 HRow5 HB5
 go_wp2_with fail
 refine (Qb8 N3 N3 _ Qm Q0D 2 _ (Q6 HL6) (by simp)).mono ?_
 rintro e w7 ⟨rfl,hL7,hb7,_⟩
 have HL7:=Qa hL7
 have HRow7:=Qa ((Q6 HRow6).below hb7)
 have HB7:=Qa ((Q6 HB6).trans (hb7.mono hs3))
 clear hb7 hL7 HL6 HRow6 HB6
 have hfl:((upM l).flatMap Q0y).length≤2 * (upM l).length:=by have:=Q52 (upM l) (upM l).length; rw [List.take_length] at this; exact this
 go_wp2_with fail
 refine (Qe7 N3 N3 _ (upM l) a3 c3 _ (Q6 HL7) (Q6 HRow7) (by omega) (by simp) (Q6 HOk)).mono ?_
 rintro e w8 ⟨rfl,hL8,hb8⟩
 have HL8:=Qa hL8
 have HRow8:=Qa ((Q6 HRow7).below hb8)
 have HB8:=Qa ((Q6 HB7).trans (hb8.mono hs3))
 clear hb8 hL8 HL7 HRow7 HB7
 go_wp2_with fail
 refine (QbU N3 N3 _ (upM l) a3 c3 _ (Q6 HL8) (Q6 HRow8) (by omega) (by rw [List.length_append]; show 2+((upM l).flatMap Q0y).length≤_; omega) (Q6 HOk) (Q6 HRi)).mono ?_
 rintro e w9 ⟨rfl,hL9,hb9⟩
 have HL9:=Qa hL9
 have HRow9:=Qa ((Q6 HRow8).below hb9)
 have HB9:=Qa ((Q6 HB8).trans (hb9.mono hs3))
 clear hb9 hL9 HL8 HRow8 HB8
 go_wp2_with fail
 refine (QaK N3 N3 _ (upM l) a3 c3 _ (Q6 HL9) (Q6 HRow9) (by omega) (by rw [List.length_append,List.length_append,List.length_map]; show 2+((upM l).flatMap Q0y).length+_≤_; omega) (Q6 HOk)).mono ?_
 rintro e w10 ⟨rfl,hL10,hb10⟩
 have HB10:=Qa ((Q6 HB9).trans (hb10.mono hs3))
 have hfin:[]++[Q04 Qm 6 (Q5U sn)]++[Q04 Qm 2 Q0D]++(upM l).flatMap Q0y++(Q2v (upM l) (Q0g (Q0d (upM l))) (Q0g (Q0d (upM l))).length).map cnR++(upM l).map Q1q=Qg l:=(Q6 HResM).symm
 rw [hfin] at hL10
 obtain ⟨a9,c9,hblk,_,hown⟩:=hL10
 obtain ⟨d0,_⟩:=Q7G hblk
 have hw:Q2u w (Qg l) (.returned (.slice a9 (Qg l).length c9)) w10:=⟨a9,c9,rfl,Q3e hs3 hown,Q6 HB10⟩
 have HW:=Qa hw
 clear hw hblk hown hb10 HL9 HRow9 HB9 HResM hfin
 generalize (Qg l).length=nn at *
 go_wp2_with fail
 go_ret
 exact Q6 HW
end Go.Proofs.YtdhobdmhnocbgabGreatDoor
