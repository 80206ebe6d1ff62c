import Derived.Test.YtdhobdmhnocbgabGreatDoorSStJ
import Derived.Test.YtdhobdmhnocbgabGreatDoorSItoa
import Derived.Test.YtdhobdmhnocbgabGreatDoorSAnyB
import Derived.Test.YtdhobdmhnocbgabGreatDoorSOpn
import Derived.Deep.Slices
namespace Go.Proofs.YtdhobdmhnocbgabGreatDoor
open Go.RowKit Zr
theorem QhP {w:World} {a:Addr} {v:Value} (h:w.cell? a=some v):a.block < w.heap.size:=by
 rcases Nat.lt_or_ge a.block w.heap.size with hb | hb
 ·exact hb
 ·simp [World.cell?,hb] at h
def RowS (w:World) (A:Nat) (a:Option Addr) (T:List ByteArray):Prop :=
 T≠[]→∃ (b:Nat) (cs:Array Value) (z:Nat × Nat),a=some ⟨b,0,none⟩∧b≠A∧w.heap[b]? = some (.cells cs 9 z)∧∀ (j:Nat) (u:Value),(stC T)[j]? = some u→cs[j]? = some u
theorem RowS.fr {w w':World} {A:Nat} {a:Option Addr} {T:List ByteArray} (h:RowS w A a T) (hf:SFr w.heap.size A w w'):RowS w' A a T:=fun ht=>by
 obtain ⟨b,cs,z,h1,h2,h3,h4⟩:=h ht
 exact ⟨b,cs,z,h1,h2,hf b cs z (Qb h3) h2 h3,h4⟩
theorem RowS.row {w:World} {A:Nat} {a:Option Addr} {T:List ByteArray} (h:RowS w A a T):RowAt w w.heap.size a (stC T):=fun ht=>by
 obtain ⟨b,cs,z,h1,h2,h3,h4⟩:=h (fun e=>ht (by rw [e]; rfl))
 refine ⟨b,0,h1,Qb h3,fun j u hu=>?_⟩
 rw [Nat.zero_add]
 simp only [World.cell?,h3]
 exact h4 j u hu
theorem RowS.app {w w':World} {A N:Nat} {al:Option Addr} {T:List ByteArray} {ks:List Value} {vx:Value} {n:Nat} (h:RowS w A al T) (_hown:w.ownsRow N 9 1 vx n (stC T++ks)) (hg:w.grownBy w' vx.ownBlock)
  (hkeep:∀ g,vx.ownBlock=some g→∃ cs,w'.heap[g]? = some (.cells cs 9 (0,0))∧∀ (j:Nat) (u:Value),(stC T++ks)[j]? = some u→cs[j]? = some u):RowS w' A al T:=fun ht=>by
 obtain ⟨b,cs,z,e1,e2,e3,e4⟩:=h ht
 by_cases hb:vx.ownBlock=some b
 ·obtain ⟨cs',k1,k2⟩:=hkeep b hb
  refine ⟨b,cs',(0,0),e1,e2,k1,fun j u hu=>k2 j u ?_⟩
  rw [List.getElem?_append_left (List.getElem?_eq_some_iff.1 hu).1]
  exact hu
 ·exact ⟨b,cs,z,e1,e2,(hg.block b (Qb e3) (fun e=>hb e.symm)).trans e3,e4⟩
theorem Qh0 {w:World} {A N:Nat} {al:Option Addr} {n cl:Nat} {T:List ByteArray} (h:w.ownsRow N 9 1 (.slice al n cl) n (stC T)) (hA:A < N):RowS w A al T:=fun ht=>by
 have hl:=h.1
 rw [Q4j] at hl
 rcases h.2 with ⟨_,h2⟩ | ⟨g,cap,cur,h1,h2,h3,h4,h5,h6,h7⟩
 ·exact absurd (List.eq_nil_of_length_eq_zero (by omega)) ht
 ·injection h1 with i1 i2 i3
  refine ⟨g,cur,(0,0),i1,by omega,h3,fun j u hu=>?_⟩
  have hj:=(List.getElem?_eq_some_iff.1 hu).1
  rw [←h7,List.getElem?_take] at hu
  split at hu
  ·simpa using hu
  ·cases hu
theorem Qj9 (mk:ByteArray) (L:List ByteArray) (j:Nat) (h:j < L.length):(stC (List.replicate j mk++L.drop j)).set j (.string mk)=stC (List.replicate (j+1) mk++L.drop (j+1)):=by
 unfold stC
 rw [List.drop_eq_getElem_cons h,List.map_append,List.map_cons,List.set_append_right _ _ (by simp)]
 simp only [List.length_map,List.length_replicate,Nat.sub_self,List.set_cons_zero]
 rw [List.replicate_succ',List.map_append,List.map_append,List.append_assoc]
 rfl
def Ql8 (w:World) (A:Nat) (o1 o2:List Value) (i:Nat):Prop :=
 ∃ (a:Option Addr) (c:Nat) (a2:Option Addr) (c2:Nat) (T:List ByteArray),o1[i]? = some (.slice a T.length c)∧o2[i]? = some (.slice a2 T.length c2)∧T.length≤67108864∧RowS w A a T∧RowS w A a2 T
def Lst (w:World) (M B n m:Nat):Prop :=
 ∃ (X A G cx ca cg:Nat) (xs ts gs:Array Value) (R:Nat→Nat) (p:Nat→ByteArray) (v1:Value) (o1:List Value) (v2:Value) (o2:List Value),
  Lw w M B X A G cx ca cg xs ts gs R p v1 n o1 v2 n o2∧(∀ k,k < 2→xs[k]? = some (.pointer (some ⟨R k,0,none⟩)))∧(∀ k,k < 2→ts[k]? = some (.string (p k)))∧(∀ k,k < 2→gs[k]? = some (.int .i64 ((Q11 (p k) 0).1.length:Nat))) ∧
  R 0≠R 1∧(M≤B∧M≤A∧M≤G∧∀ k,k < 2→M≤R k)∧(p 0).size+(p 1).size≤m∧∀ i,i < n→Ql8 w A o1 o2 i
theorem Lst.below {w w':World} {M B n m:Nat} (h:Lst w M B n m) (hb:Below w.heap.size w w'):Lst w' M B n m:=by
 obtain ⟨X,A,G,cx,ca,cg,xs,ts,gs,R,p,v1,o1,v2,o2,hl,hx,ha,hg,hR,hM,hp,hal⟩:=h
 refine ⟨X,A,G,cx,ca,cg,xs,ts,gs,R,p,v1,o1,v2,o2,hl.below hb,hx,ha,hg,hR,hM,hp,fun i hi=>?_⟩
 obtain ⟨a,c,a2,c2,T,q1,q2,q3,q4,q5⟩:=hal i hi
 exact ⟨a,c,a2,c2,T,q1,q2,q3,q4.fr (SFr.below hb),q5.fr (SFr.below hb)⟩
theorem Lst.less {w:World} {M B n m m':Nat} (h:Lst w M B n m) (hm:m≤m'):Lst w M B n m':=by
 obtain ⟨X,A,G,cx,ca,cg,xs,ts,gs,R,p,v1,o1,v2,o2,hl,hx,ha,hg,hR,hM,hp,hal⟩:=h
 exact ⟨X,A,G,cx,ca,cg,xs,ts,gs,R,p,v1,o1,v2,o2,hl,hx,ha,hg,hR,hM,Nat.le_trans hp hm,hal⟩
theorem Qeh {M Z:Nat} {w w':World} (h:w.grownBy w' (some Z)) (hZ:M≤Z) (hM:M≤w.heap.size):Below M w w' :=
 ⟨h.os,h.tape,h.output,h.size,fun k hk=>h.block k (Nat.lt_of_lt_of_le hk hM) fun e=>by cases e; omega⟩
theorem Q3Y (N:Nat) (w:World):Below N w w.drew:=⟨rfl,rfl,rfl,Nat.le_refl _,fun _ _=>rfl⟩
theorem Q0S (N:Nat) (w:World) (n:Nat):Below N w (w.drewN n):=⟨rfl,rfl,rfl,Nat.le_refl _,fun _ _=>rfl⟩
theorem Qdh {w:World} {N Z:Nat} {e:TypeId} {size:Nat} {v:Value} {n:Nat} {xs:List Value} (h:w.ownsRow N e size v n xs) (hZ:Z < N) (j:Nat) (u:Value):(w.setCell ⟨Z,j,none⟩ u).ownsRow N e size v n xs:=by
 refine h.kept (Ql w Z j u) ?_
 cases hv:v.ownBlock with
 | none=>exact .inl rfl
 | some g =>
  refine .inr fun he=>?_
  have:=(h.lt g hv).1
  cases he
  omega
theorem KFr.own {w:World} {N g n c:Nat} {xs:List Value} (h:w.ownsRow N 9 1 (.slice (some ⟨g,0,none⟩) n c) n xs) (j:Nat) (u:Value):KFr w (w.setCell ⟨g,j,none⟩ u):=KFr.app h (by decide) (Ql w g j u)
theorem Qak {ts:Array Value} {k:Nat} {u v:Value} (h:ts[k]? = some u):(ts.setIfInBounds k v)[k]? = some v:=by
 have hk:k < ts.size:=(Array.getElem?_eq_some_iff.1 h).1
 simp [hk]
theorem QbI {ts:Array Value} {k i:Nat} {u v:Value} (h:ts[i]? = some u) (hi:i≠k):(ts.setIfInBounds k v)[i]? = some u:=by
 rw [Array.getElem?_setIfInBounds_ne (Ne.symm hi)]
 exact h
theorem Q5C (l:List ByteArray) (a a':Option Addr) (c n' c' N N':Nat) (w:World) (h1:RowAt w N a (stC l)) (h2:RowAt w N' a' (stC l)) (hn:l.length≤67108864) (he:n'=l.length) :
  Calls Tryz.prog 18 #[.slice a l.length c,.slice a' n' c'] w fun e w'=>e=.returned (.bool true)∧∃ n,w'=w.drewN n:=by
 subst he
 exact Q4B l a a' c c' N N' w h1 h2 hn
theorem Qj5 {w:World} {N g c:Nat} {E L:List ByteArray} (h:w.ownsRow N 9 1 (.slice (some ⟨g,0,none⟩) (E++L).length c) (E++L).length (stC (E++L))):RowAt w w.heap.size (some ⟨g,E.length,none⟩) (stC L):=fun hne=>by
 have hc:∀ (j:Nat) (u:Value),(stC L)[j]? = some u→w.cell? ⟨g,E.length+j,none⟩=some u:=fun j u hu=>by
  refine Q0v h (E.length+j) u ?_
  rw [Q7h,List.getElem?_append_right (by rw [Q4j]; omega),Q4j,Nat.add_sub_cancel_left]
  exact hu
 refine ⟨g,E.length,rfl,?_,fun j u hu=>hc j u hu⟩
 cases hl:stC L with
 | nil=>exact absurd hl hne
 | cons x t=>exact QhP (hc 0 x (by rw [hl]; rfl))
theorem Qfz (s:ByteArray) (k:Nat):(Q11 s k).1.length≤s.size - k:=by
 by_cases h:k+2≤s.size∧k+2+num s k 2≤s.size
 ·rw [Q4E h]
  have:=Qfz s (k+2+num s k 2)
  simp only [List.length_cons]
  omega
 ·rw [Q4S h]
  exact Nat.zero_le _
termination_by s.size - k
set_option maxRecDepth 100000 in
set_option maxHeartbeats 4000000 in
theorem Qa5 (M B n m:Nat) (f:Int) (s:ByteArray) (look:Bool) (w:World) (h:Lst w M B n m) (hf1:-9223372036854775808≤f) (hf2:f < 9223372036854775808) (hz:m+s.size≤67108864) (hn:n≤67108864)
  (htab : Lib.TabBelow Tryz.prog M w "internal/strconv.uint64pow10" .u64 Lib.pow10Tab) :
  Calls Tryz.prog 17 #[.pointer (some ⟨B,0,none⟩),.agg #[.int .i64 f,.string s,.bool look]] w fun r w'=>r=.returned (.bool true)∧Below M w w'∧KFr w w'∧∃ n',n'≤n+1∧Lst w' M B n' (m+s.size):=by
 have HLs:=Qa h
 obtain ⟨X,A,G,cx,ca,cg,xs,ts,gs,R,p,v1,o1,v2,o2,hl,hx,ha,hg,hR,hM,hp,hal⟩:=h
 have hMs:M≤w.heap.size:=Nat.le_trans hM.1 (Nat.le_of_lt hl.bounds.b)
 obtain ⟨av1,cv1,hv1⟩:=Q3f hl.h1
 obtain ⟨av2,cv2,hv2⟩:=Q3f hl.h2
 have HV1:=Qa hv1
 have HV2:=Qa hv2
 clear hv1 hv2
 have hol1:o1.length=n:=by have:=hl.h1.1; omega
 have hol2:o2.length=n:=by have:=hl.h2.1; omega
 have HOL1:=Qa hol1
 have HOL2:=Qa hol2
 clear hol1 hol2
 have hA0:=(Below.refl w.heap.size w).alloc (Nat.le_refl _) (.cells #[.int .i64 f,.string s,.bool look] 59)
 have hC:=heap_alloc_new w (.cells #[.int .i64 f,.string s,.bool look] 59)
 have HLsA:=Qa ((Q6 HLs).below hA0)
 have hlA:=hl.below hA0
 have HBl:=Qa (hl.bounds.mono (show w.heap.size≤w.heap.size+1 by omega))
 have HA0:=Qa hA0
 have hsA:(w.alloc (.cells #[.int .i64 f,.string s,.bool look] 59)).heap.size=w.heap.size+1:=by simp
 have hal2:=Qa hal
 have HX:=Qa hx
 have HTs:=Qa ha
 have HGs:=Qa hg
 have HT:=Qa htab
 clear hal hl hx ha hg hA0 htab HLs
 go_enter Tryz.func17,Tryz.ntmps17
 go_upto_region 1 with fail
 obtain ⟨C,hCs⟩:∃ C,w.heap.size=C:=⟨_,rfl⟩
 rw [hCs] at hC hsA HBl HA0 hMs
 simp only [hCs]
 generalize w.alloc (.cells #[.int .i64 f,.string s,.bool look] 59)=w0 at *
 have d0:w0.cell? ⟨C,0,none⟩=some (.int .i64 f):=Qc hC 0
 have d1:w0.cell? ⟨C,1,none⟩=some (.string s):=Qc hC 1
 have d2:w0.cell? ⟨C,2,none⟩=some (.bool look):=Qc hC 2
 have HC:=Qa hC
 have HLA:=Qa hlA
 have HCs:=Qa hCs
 have b0:w0.cell? ⟨B,0,none⟩=some (.slice (some ⟨X,0,none⟩) 2 cx):=Qc hlA.hB 0
 clear hC hlA hCs
 go_wp2_with fail
 refine (QlJ f _ hf1 hf2).mono ?_
 rintro r w1 ⟨⟨k,hk3,rfl⟩,rfl⟩
 by_cases hk:k < 2
 ·have xk:w1.cell? ⟨X,k,none⟩=some (.pointer (some ⟨R k,0,none⟩)):=(Qc (Q6 HLA).hX k).trans (Q6 HX k hk)
  have hpk:(p k).size≤m:=by
   have:k=0∨k=1:=by omega
   rcases this with rfl | rfl <;> omega
  have KP:Hid (∀ W,FdAt W (R k) (p k)→Calls Tryz.prog 37 #[.pointer (some ⟨R k,0,none⟩),.string s] W fun r w'=>Q7n W (R k) (p k) s r w'):=Qa fun W q=>QlM (R k) (p k) s W q (by omega)
  have HFd:=Qa ((Q6 HLA).hF k hk)
  have hk1:¬ ((2:Int)≤(k:Int)):=by omega
  have hk2:(k:Int) < 2:=by omega
  have hk0:(0:Int)≤(k:Int):=by omega
  go_upto_region 4 with fail
  go_region_held3 (fun u=>u.cell? ⟨B,0,none⟩=some (.slice (some ⟨X,0,none⟩) 2 cx)∧u.cell? ⟨X,k,none⟩=some (.pointer (some ⟨R k,0,none⟩))∧u.cell? ⟨C,1,none⟩=some (.string s)) (go_keep)
   (first
    | (go_at_call 37; refine (Q6 KP _ (by exact Q6 HFd)).mono ?_; rintro r w2 ⟨L,al,cl,q1,rfl,q2,q3,q4'⟩; have q4:w1.grownBy w2 (some (R k)):=⟨q4'.os,q4'.tape,q4'.output,q4'.size,q4'.block⟩; have HL2:=Qa ((Q6 HLA).push hk hR q3 q4); have y0:w2.cell? ⟨B,0,none⟩=some (.slice (some ⟨X,0,none⟩) 2 cx):=Qc (Q6 HL2).hB 0; have y1:w2.cell? ⟨X,k,none⟩=some (.pointer (some ⟨R k,0,none⟩)):=(Qc (Q6 HL2).hX k).trans (Q6 HX k hk); have HC2:Hid (w2.heap[C]? = some (.cells #[.int .i64 f,.string s,.bool look] 59 (0,0))):=Qa (by obtain ⟨fe,fl,fz,_⟩:=Q6 HFd; exact Q0T (Q6 HC) (show w1.heap[R k]? = some (.cells _ _ _) from fz) (by decide) q4); have y2:w2.cell? ⟨C,1,none⟩=some (.string s):=Qc (Q6 HC2) 1))
  have hlen:(Q11 (p k++s) 0)=((Q11 (p k) 0).1++L,(Q11 (p k++s) 0).2):=by rw [Qbf,q1]
  have HLen:=Qa hlen
  have HO2:Hid (w2.ownsRow (C+1) 9 1 (.slice al L.length cl) L.length (stC L)):=Qa (by rw [←hsA]; exact q2)
  have HSF2:Hid (SFr C A w w2):=Qa (by
   obtain ⟨fe,fl,fz,_⟩:=Q6 HFd
   exact (SFr.below (Q6 HA0)).trans (SFr.turn (show w1.heap[R k]? = some (.cells _ _ _) from fz) (by decide) q4))
  have HK2:Hid (KFr w w2):=Qa (by
   obtain ⟨fe,fl,fz,_⟩:=Q6 HFd
   exact (KFr.below (by rw [Q6 HCs]; exact Q6 HA0)).trans (KFr.turn (show w1.heap[R k]? = some (.cells _ _ _) from fz) (by decide) q4))
  have HB2:Hid (Below M w w2):=Qa (((Q6 HA0).mono hMs).trans (Qeh q4 (hM.2.2.2 k hk) (by omega)))
  have hs2:C+1≤w2.heap.size:=by have:=q4.size; omega
  have hqs:(p k++s).size=(p k).size+s.size:=ByteArray.size_append
  have b1:w2.cell? ⟨B,1,none⟩=some (.slice (some ⟨A,0,none⟩) 2 ca):=Qc (Q6 HL2).hB 1
  have ak:w2.cell? ⟨A,k,none⟩=some (.string (p k)):=(Qc (Q6 HL2).hA k).trans (Q6 HTs k hk)
  have za:=Qd (Q6 HL2).hA k
  have hAlt:=Qb (Q6 HL2).hA
  have hadd:∀ W:World,(Op.stringOp .add (p k) s).run Tryz.prog W=.ok (.string (p k++s)) W:=fun W=>run_string_add_sum W (p k) s (by omega)
  clear q1 q2 q3 q4 q4' hlen d0 d1 d2 b0 xk y0 y1 KP HFd HLA HC HLsA
  go_upto_region 5 with fail
  refine wp_region_noPanic ?_
  refine Q3E (fun u=>u.cell? ⟨B,1,none⟩=some (.slice (some ⟨A,0,none⟩) 2 ca)∧u.cell? ⟨A,k,none⟩=some (.string (p k))∧u.cell? ⟨C,1,none⟩=some (.string s)) 16 (by kernel_rfl) ?_
  have hS1:w2.drew.cell? ⟨B,1,none⟩=some (.slice (some ⟨A,0,none⟩) 2 ca)∧w2.drew.cell? ⟨A,k,none⟩=some (.string (p k))∧w2.drew.cell? ⟨C,1,none⟩=some (.string s):=⟨b1,ak,y2⟩
  refine Qq (i:=0) (v:=?_) rfl rfl (by kernel_rfl) (by kernel_rfl) (by kernel_rfl) (by kernel_rfl) (fun _ _ _ h=>h) (Or.inl ⟨by rfl,?_⟩) hS1 ?_
  rotate_left
  ·intro u hu
   obtain ⟨u0,u1,u2⟩:=hu
   go_simp
   try with_reducible rfl
  try simp only [Act.put]
  refine Qq (i:=1) (v:=?_) rfl rfl (by kernel_rfl) (by kernel_rfl) (by kernel_rfl) (by kernel_rfl) (fun _ _ _ h=>h) (Or.inl ⟨by rfl,?_⟩) hS1 ?_
  rotate_left
  ·intro u hu
   obtain ⟨u0,u1,u2⟩:=hu
   go_simp
   try with_reducible rfl
  try simp only [Act.put]
  refine Qq (i:=2) (v:=?_) rfl rfl (by kernel_rfl) (by kernel_rfl) (by kernel_rfl) (by kernel_rfl) (fun _ _ _ h=>h) (Or.inl ⟨by rfl,?_⟩) hS1 ?_
  rotate_left
  ·intro u hu
   obtain ⟨u0,u1,u2⟩:=hu
   go_simp
   try with_reducible rfl
  try simp only [Act.put]
  refine Qq (i:=3) (v:=?_) rfl rfl (by kernel_rfl) (by kernel_rfl) (by kernel_rfl) (by kernel_rfl) (fun _ _ _ h=>h) (Or.inl ⟨by rfl,?_⟩) hS1 ?_
  rotate_left
  ·intro u hu
   obtain ⟨u0,u1,u2⟩:=hu
   go_simp
   try with_reducible rfl
  try simp only [Act.put]
  refine Qq (i:=4) (v:=?_) rfl rfl (by kernel_rfl) (by kernel_rfl) (by kernel_rfl) (by kernel_rfl) (fun _ _ _ h=>h) (Or.inl ⟨by rfl,?_⟩) hS1 ?_
  rotate_left
  ·intro u hu
   obtain ⟨u0,u1,u2⟩:=hu
   go_simp
   try with_reducible rfl
  try simp only [Act.put]
  refine Qq (i:=5) (v:=?_) rfl rfl (by kernel_rfl) (by kernel_rfl) (by kernel_rfl) (by kernel_rfl) (fun _ _ _ h=>h) (Or.inl ⟨by rfl,?_⟩) hS1 ?_
  rotate_left
  ·intro u hu
   obtain ⟨u0,u1,u2⟩:=hu
   go_simp
   try with_reducible rfl
  try simp only [Act.put]
  refine Qq (i:=6) (v:=?_) rfl rfl (by kernel_rfl) (by kernel_rfl) (by kernel_rfl) (by kernel_rfl) (fun _ _ _ h=>h) (Or.inl ⟨by rfl,?_⟩) hS1 ?_
  rotate_left
  ·intro u hu
   obtain ⟨u0,u1,u2⟩:=hu
   go_simp
   try with_reducible rfl
  try simp only [Act.put]
  refine Qq (i:=7) (v:=?_) rfl rfl (by kernel_rfl) (by kernel_rfl) (by kernel_rfl) (by kernel_rfl) (fun _ _ _ h=>h) (Or.inl ⟨by rfl,?_⟩) hS1 ?_
  rotate_left
  ·intro u hu
   obtain ⟨u0,u1,u2⟩:=hu
   go_simp
   try with_reducible rfl
  try simp only [Act.put]
  refine Qq (i:=8) (v:=?_) rfl rfl (by kernel_rfl) (by kernel_rfl) (by kernel_rfl) (by kernel_rfl) (fun _ _ _ h=>h) (Or.inl ⟨by rfl,?_⟩) hS1 ?_
  rotate_left
  ·intro u hu
   obtain ⟨u0,u1,u2⟩:=hu
   go_simp
   try with_reducible rfl
  try simp only [Act.put]
  refine Qq (i:=9) (v:=?_) rfl rfl (by kernel_rfl) (by kernel_rfl) (by kernel_rfl) (by kernel_rfl) (fun _ _ _ h=>h) (Or.inl ⟨by rfl,?_⟩) hS1 ?_
  rotate_left
  ·intro u hu
   obtain ⟨u0,u1,u2⟩:=hu
   go_simp
   try with_reducible rfl
  try simp only [Act.put]
  refine Qq (i:=10) (v:=?_) rfl rfl (by kernel_rfl) (by kernel_rfl) (by kernel_rfl) (by kernel_rfl) (fun _ _ _ h=>h) (Or.inl ⟨by rfl,?_⟩) hS1 ?_
  rotate_left
  ·intro u hu
   obtain ⟨u0,u1,u2⟩:=hu
   go_simp
   try with_reducible rfl
  try simp only [Act.put]
  refine Qq (i:=11) (v:=?_) rfl rfl (by kernel_rfl) (by kernel_rfl) (by kernel_rfl) (by kernel_rfl) (fun _ _ _ h=>h) (Or.inl ⟨by rfl,?_⟩) hS1 ?_
  rotate_left
  ·intro u hu
   obtain ⟨u0,u1,u2⟩:=hu
   go_simp
   try with_reducible rfl
  try simp only [Act.put]
  refine Qq (i:=12) (v:=?_) rfl rfl (by kernel_rfl) (by kernel_rfl) (by kernel_rfl) (by kernel_rfl) (fun _ _ _ h=>h) (Or.inl ⟨by rfl,?_⟩) hS1 ?_
  rotate_left
  ·intro u hu
   obtain ⟨u0,u1,u2⟩:=hu
   go_simp
   try with_reducible rfl
  try simp only [Act.put]
  refine Qq (i:=13) (v:=?_) rfl rfl (by kernel_rfl) (by kernel_rfl) (by kernel_rfl) (by kernel_rfl) (fun _ _ _ h=>h) (Or.inl ⟨by rfl,?_⟩) hS1 ?_
  rotate_left
  ·intro u hu
   obtain ⟨u0,u1,u2⟩:=hu
   go_simp
   try with_reducible rfl
  try simp only [Act.put]
  refine Qq (i:=14) (v:=?_) rfl rfl (by kernel_rfl) (by kernel_rfl) (by kernel_rfl) (by kernel_rfl) (fun _ _ _ h=>h) (Or.inl ⟨by rfl,?_⟩) hS1 ?_
  rotate_left
  ·intro u hu
   obtain ⟨u0,u1,u2⟩:=hu
   go_simp
   try with_reducible rfl
  try simp only [Act.put]
  refine Q1m (i:=15) rfl (by kernel_rfl) (fun K hK=>?_)
  go_simp
  refine hK _ _ (fun _=>hS1) ?_
  clear hK K
  try simp only [Act.put]
  refine Q1m (i:=16) rfl (by kernel_rfl) (fun K hK=>?_)
  go_simp
  refine hK _ _ (fun h=>absurd rfl h) (Q6p (by kernel_rfl) ?_ _)
  clear hK K
  refine NoPanic.normal ?_
  have HL3:=Qa (((Q6 HL2).setA k (.string (p k++s))).below (Q3Y _ _))
  have HO3:=Qa (Qk (Qdh (Q6 HO2) (Nat.lt_succ_of_le (show A≤C by have:=(Q6 HBl).a; omega)) k (.string (p k++s))) (Q3Y _ _))
  have HSF3:Hid (SFr C A w (w2.setCell ⟨A,k,none⟩ (.string (p k++s))).drew):=Qa (((Q6 HSF2).trans (SFr.setA w2 k (.string (p k++s)))).trans (SFr.below (Q3Y _ _)))
  have HK3:Hid (KFr w (w2.setCell ⟨A,k,none⟩ (.string (p k++s))).drew):=Qa (((Q6 HK2).trans (KFr.turn (Q6 HL2).hA (by decide) (Ql w2 A k (.string (p k++s))))).trans (KFr.below (Q3Y _ _)))
  have HB3:Hid (Below M w (w2.setCell ⟨A,k,none⟩ (.string (p k++s))).drew):=Qa (((Q6 HB2).setCell (p:=⟨A,k,none⟩) hM.2.1 _).trans (Q3Y _ _))
  have HC3:Hid ((w2.setCell ⟨A,k,none⟩ (.string (p k++s))).drew.heap[C]? = some (.cells #[.int .i64 f,.string s,.bool look] 59 (0,0))):=Qa (show (w2.setCell ⟨A,k,none⟩ (.string (p k++s))).heap[C]? = _ from Q0T (Q6 HC2) (Q6 HL2).hA (by decide) (Ql w2 A k (.string (p k++s))))
  have hs3:C+1≤(w2.setCell ⟨A,k,none⟩ (.string (p k++s))).drew.heap.size:=by
   show C+1≤(w2.setCell ⟨A,k,none⟩ (.string (p k++s))).heap.size
   rw [Q0l]
   exact hs2
  clear HL2 HO2 HSF2 HB2 HK2 HC2 hs2 hS1 b1 ak za hAlt hadd y2
  generalize (w2.setCell ⟨A,k,none⟩ (.string (p k++s))).drew=w3 at *
  have b1:w3.cell? ⟨B,1,none⟩=some (.slice (some ⟨A,0,none⟩) 2 ca):=Qc (Q6 HL3).hB 1
  have ak:w3.cell? ⟨A,k,none⟩=some (.string (p k++s)):=(Qc (Q6 HL3).hA k).trans (Qak (Q6 HTs k hk))
  have HFq:Hid (∀ W,Lw W M B X A G cx ca cg xs (ts.setIfInBounds k (.string (p k++s))) gs R (fun i=>if i=k then p k++s else p i) v1 n o1 v2 n o2→FdAt W (R k) (p k++s)):=Qa fun W q=>by
   have:=q.hF k hk
   simp only [if_pos] at this
   exact this
  have hqm:(p k++s).size≤67108864:=by omega
  have hpq:(p k++s).size+(p (1 - k)).size≤m+s.size:=by
   have:k=0∨k=1:=by omega
   rcases this with rfl | rfl
   ·show _+(p 1).size≤_; omega
   ·show _+(p 0).size≤_; omega
  have HPQ:=Qa hpq
  generalize hq:p k++s=q at *
  have KC:=Qa (QeZ q w3 hqm)
  generalize hD:(Q11 q 0).1=D at *
  generalize hlf:(Q11 q 0).2=lf at *
  have hDL:D=(Q11 (p k) 0).1++L:=by rw [←hD,Q6 HLen]
  have hDn:D.length≤67108864:=by have:=Qfz q 0; rw [hD] at this; omega
  have hlf2:lf≤67108864:=by have:=Q5j q 0; omega
  have HDL:=Qa hDL
  have HD:=Qa hD
  have Hlf:=Qa hlf
  clear hD hlf hDL HLen hq
  go_wp2_with fail
  refine (Q6 KC).mono ?_
  rintro r w4 ⟨am,cm,rfl,c1,c2⟩
  have HL4:=Qa ((Q6 HL3).below c2)
  have HO4:=Qa (Qk (Q6 HO3) c2)
  have HM4:=Qa c1
  have HSF4:=Qa ((Q6 HSF3).trans (SFr.below (N:=C) (A:=A) (c2.mono (by omega))))
  have HB4:=Qa ((Q6 HB3).trans (c2.mono (by omega)))
  have HK4:=Qa ((Q6 HK3).trans (KFr.below c2))
  have HC4:=Qa ((c2.block C (Qb (Q6 HC3))).trans (Q6 HC3))
  have hs4:C+1≤w4.heap.size:=Nat.le_trans hs3 c2.size
  clear c1 c2 HL3 HO3 HSF3 HB3 HK3 HC3 b1 ak KC
  have d2:w4.cell? ⟨C,2,none⟩=some (.bool look):=Qc (Q6 HC4) 2
  go_upto_if 67 with fail
  go_cut [1,67] (fun _ _ w'=>∃ t,Hid (w'=w4.drewN t))
  case first =>
   have KL:=Qa (Qlr (R k) q w4 (Q6 HFq _ (Q6 HL4)) hqm)
   rw [Q6 Hlf] at KL
   have b0:w4.cell? ⟨B,0,none⟩=some (.slice (some ⟨X,0,none⟩) 2 cx):=Qc (Q6 HL4).hB 0
   have xk:w4.cell? ⟨X,k,none⟩=some (.pointer (some ⟨R k,0,none⟩)):=(Qc (Q6 HL4).hX k).trans (Q6 HX k hk)
   have hne:((lf:Int) != (lf:Int))=false:=by simp
   clear d2 HC4
   cases look with
   | true =>
    go_wp2_with fail
    refine (Q6 KL).mono ?_
    rintro r w5 ⟨rfl,t,rfl⟩
    go_wp2_with fail
    go_meet
    exact ⟨t,Qa rfl⟩
   | false =>
    go_wp2_with fail
    go_meet
    exact ⟨0,Qa rfl⟩
  case rest =>
   obtain ⟨t,HW⟩:=hcut
   generalize wc=w6 at *
   have HL5:Hid (Lw w6 M B X A G cx ca cg xs (ts.setIfInBounds k (.string q)) gs R (fun i=>if i=k then q else p i) v1 n o1 v2 n o2):=Qa (by rw [Q6 HW]; exact (Q6 HL4).below (Q0S _ _ _))
   have HO5:Hid (w6.ownsRow (C+1) 9 1 (.slice al L.length cl) L.length (stC L)):=Qa (by rw [Q6 HW]; exact Qk (Q6 HO4) (Q0S _ _ _))
   have HM5:Hid (w6.ownsRow w3.heap.size 9 1 (.slice am D.length cm) D.length (stC D)):=Qa (by rw [Q6 HW]; exact Qk (Q6 HM4) (Q0S _ _ _))
   have HSF5:Hid (SFr C A w w6):=Qa (by rw [Q6 HW]; exact (Q6 HSF4).trans (SFr.below (Q0S _ _ _)))
   have HB5:Hid (Below M w w6):=Qa (by rw [Q6 HW]; exact (Q6 HB4).trans (Q0S _ _ _))
   have HK5:Hid (KFr w w6):=Qa (by rw [Q6 HW]; exact (Q6 HK4).trans (KFr.below (Q0S _ _ _)))
   have hs5:C+1≤w6.heap.size:=by rw [Q6 HW]; exact hs4
   clear HL4 HO4 HM4 HSF4 HB4 HK4 HC4 HW d2 hs4 Hlf HFq
   generalize hne:(Q11 (p k) 0).1.length=ne at *
   have hDl:D.length=ne+L.length:=by rw [Q6 HDL,List.length_append,hne]
   have gk:w6.cell? ⟨G,k,none⟩=some (.int .i64 (ne:Nat)):=by rw [←hne]; exact (Qc (Q6 HL5).hG k).trans (Q6 HGs k hk)
   have HDL2:Hid (∃ E:List ByteArray,E.length=ne∧D=E++L):=Qa ⟨_,hne,Q6 HDL⟩
   have b2:w6.cell? ⟨B,2,none⟩=some (.slice (some ⟨G,0,none⟩) 2 cg):=Qc (Q6 HL5).hB 2
   have hgt:¬ ((D.length:Int) < (ne:Int)):=by omega
   clear hne HDL
   have HDl:=Qa hDl
   clear hDl
   generalize hdl:D.length=dl at *
   go_upto_region 13 with fail
   go_cut [7,10,55,63,64,86,87,88,90] (fun v7 v10 _ _ _ _ _ _ _ w'=>v7=.slice am dl cm∧v10=.bool true∧∃ t,Hid (w'=w6.drewN t))
   case first =>
    have hLn:L.length≤67108864:=by have:=Q6 HDl; omega
    rcases (Q6 HM5).2 with ⟨h1,h2⟩ | ⟨gm,cap,cur,h1,h2,h3,h4,h5,h6,h7⟩
    ·injection h1 with i1 i2 i3
     subst i1
     subst i3
     have hL0:0=L.length:=by have:=Q6 HDl; omega
     have KS:=Qa (Q5C L al none cl 0 0 w6.heap.size w6.heap.size w6 (Q0u (Q6 HO5)) (fun hx=>absurd (List.eq_nil_of_length_eq_zero (by rw [Q4j]; exact hL0.symm)) hx) hLn hL0)
     have hle:(ne:Int)≤(dl:Int):=by omega
     have HI2:=Qa i2
     clear hL0 h2
     go_wp2_with fail
     refine (Q6 KS).mono ?_
     rintro r w5 ⟨rfl,t,rfl⟩
     go_wp2_with fail
     go_meet
     exact ⟨by rw [Q6 HI2],rfl,t,Qa rfl⟩
    ·injection h1 with i1 i2 i3
     subst i1
     subst i3
     have hdl2:dl - ne=L.length:=by have:=Q6 HDl; omega
     have HR:Hid (RowAt w6 w6.heap.size (some ⟨gm,ne,none⟩) (stC L)):=Qa (by
      obtain ⟨E,e1,e2⟩:=Q6 HDL2
      have:=Q6 HM5
      rw [e2] at this hdl
      rw [←hdl,←e1] at *
      exact Qj5 this)
     have KS:=Qa (Q5C L al (some ⟨gm,ne,none⟩) cl (dl - ne) (cm - ne) w6.heap.size w6.heap.size w6 (Q0u (Q6 HO5)) (Q6 HR) hLn hdl2)
     have KT:Hid (cm=ne→Calls Tryz.prog 18 #[.slice al L.length cl,.slice (some ⟨gm,0,none⟩) (dl - ne) 0] w6 fun e w'=>e=.returned (.bool true)∧∃ n,w'=w6.drewN n):=Qa fun hc =>
      Q5C L al (some ⟨gm,0,none⟩) cl (dl - ne) 0 w6.heap.size w6.heap.size w6 (Q0u (Q6 HO5)) (fun hx=>absurd (List.eq_nil_of_length_eq_zero (by rw [Q4j]; have:=Q6 HDl; omega)) hx) hLn hdl2
     have hle:(ne:Int)≤(dl:Int):=by omega
     clear hdl2 h2 h3 h4 h5 h6 h7
     go_wp2_with fail
     case inl =>
      have hcm:cm=ne:=by assumption
      have HCM:=Qa hcm
      clear hcm
      refine (Q6 KT (Q6 HCM)).mono ?_
      rintro r w5 ⟨rfl,t,rfl⟩
      go_wp2_with fail
      go_meet
      exact ⟨by rw [Q6 HCM],rfl,t,Qa rfl⟩
     case inr =>
      refine (Q6 KS).mono ?_
      rintro r w5 ⟨rfl,t,rfl⟩
      go_wp2_with fail
      go_meet
      exact ⟨rfl,rfl,t,Qa rfl⟩
   case rest =>
    obtain ⟨rfl,rfl,t2,HW2⟩:=hcut
    have HL6:Hid (Lw wc M B X A G cx ca cg xs (ts.setIfInBounds k (.string q)) gs R (fun i=>if i=k then q else p i) v1 n o1 v2 n o2):=Qa (by rw [Q6 HW2]; exact (Q6 HL5).below (Q0S _ _ _))
    have HO6:Hid (wc.ownsRow (C+1) 9 1 (.slice al L.length cl) L.length (stC L)):=Qa (by rw [Q6 HW2]; exact Qk (Q6 HO5) (Q0S _ _ _))
    have HSF6:Hid (SFr C A w wc):=Qa (by rw [Q6 HW2]; exact (Q6 HSF5).trans (SFr.below (Q0S _ _ _)))
    have HB6:Hid (Below M w wc):=Qa (by rw [Q6 HW2]; exact (Q6 HB5).trans (Q0S _ _ _))
    have HK6:Hid (KFr w wc):=Qa (by rw [Q6 HW2]; exact (Q6 HK5).trans (KFr.below (Q0S _ _ _)))
    have hs6:C+1≤wc.heap.size:=by rw [Q6 HW2]; exact hs5
    clear HL5 HO5 HM5 HSF5 HB5 HK5 HW2 hs5 gk b2 HDL2
    generalize wc=w7 at *
    have HL7:=Qa ((Q6 HL6).setG k (.int .i64 (dl:Nat)))
    have HO7:=Qa (Qdh (Q6 HO6) (Nat.lt_succ_of_le (show G≤C by have:=(Q6 HBl).g; omega)) k (.int .i64 (dl:Nat)))
    have HSF7:Hid (SFr C A w (w7.setCell ⟨G,k,none⟩ (.int .i64 (dl:Nat)))):=Qa ((Q6 HSF6).trans (SFr.turn (Q6 HL6).hG (by decide) (Ql w7 G k _)))
    have HK7:Hid (KFr w (w7.setCell ⟨G,k,none⟩ (.int .i64 (dl:Nat)))):=Qa ((Q6 HK6).trans (KFr.turn (Q6 HL6).hG (by decide) (Ql w7 G k _)))
    have HB7:Hid (Below M w (w7.setCell ⟨G,k,none⟩ (.int .i64 (dl:Nat)))):=Qa ((Q6 HB6).setCell (p:=⟨G,k,none⟩) hM.2.2.1 _)
    have hs7:C+1≤(w7.setCell ⟨G,k,none⟩ (.int .i64 (dl:Nat))).heap.size:=by rw [Q0l]; exact hs6
    have b2:w7.cell? ⟨B,2,none⟩=some (.slice (some ⟨G,0,none⟩) 2 cg):=Qc (Q6 HL6).hB 2
    have gk:=(Qc (Q6 HL6).hG k).trans (Q6 HGs k hk)
    have zg:=Qd (Q6 HL6).hG k
    go_upto_region 15 with fail
    clear b2 gk zg HL6 HO6 HSF6 HB6 HK6 hs6
    generalize w7.setCell ⟨G,k,none⟩ (.int .i64 (dl:Nat))=w8 at *
    have b3:w8.cell? ⟨B,3,none⟩=some (.slice av1 n cv1):=by rw [←Q6 HV1]; exact Qc (Q6 HL7).hB 3
    have KI:=Qa (Qiu n w8 (by omega) (Q6 HT w8 (Q6 HB7)))
    go_upto_region 16 with (go_at_call 40; refine (Q6 KI).mono ?_; rintro r w9 ⟨⟨mk,hmk,rfl⟩,i9⟩)
    have HL9:=Qa ((Q6 HL7).below i9)
    have HO9:=Qa (Qk (Q6 HO7) i9)
    have HSF9:=Qa ((Q6 HSF7).trans (SFr.below (N:=C) (A:=A) (i9.mono (by omega))))
    have HB9:=Qa ((Q6 HB7).trans (i9.mono (by omega)))
    have HK9:=Qa ((Q6 HK7).trans (KFr.below i9))
    have hs9:C+1≤w9.heap.size:=Nat.le_trans hs7 i9.size
    clear i9 KI HL7 HO7 HSF7 HB7 HK7 hs7 b3
    have hLn:L.length≤67108864:=by have:=Q6 HDl; omega
    have hAC:A < C+1:=(Q6 HBl).a
    obtain ⟨i0,hi,hz0,hz1,hz2⟩:=info_parts Tryz.infoTx
    have Hi:=Qa hi
    have Hz0:=Qa hz0
    have Hz1:=Qa hz1
    have Hz2:=Qa hz2
    obtain ⟨i5,hi,hz0,hz1,hz2⟩:=info_parts Tryz.infoL
    have Hj:=Qa hi
    have Hy0:=Qa hz0
    have Hy1:=Qa hz1
    have Hy2:=Qa hz2
    clear hi hz0 hz1 hz2
    go_wp2_with fail
    go_loopg [12] (L.length+1) (fun g vi w'=>∃ j:Nat,vi=.int .i64 j∧j≤L.length∧g=L.length+1 - j∧Hid (w'.ownsRow (C+1) 9 1 (.slice al L.length cl) L.length (stC (List.replicate j mk++L.drop j)))∧Hid (Below (C+1) w9 w')∧C+1≤w'.heap.size∧Hid (KFr w w'))
    case atStart=>exact ⟨0,rfl,Nat.zero_le _,rfl,HO9,Qa (Below.refl _ _),hs9,HK9⟩
    case round =>
     obtain ⟨j,rfl,hj,rfl,HOj,HBj,hsj,HKj⟩:=hrel
     by_cases cj:j < L.length
     ·obtain ⟨g,rfl,x0⟩:=Q7P (Q6 HOj) j (.string L[j]) (by
       unfold stC
       rw [List.map_append,List.getElem?_append_right (by simp)]
       simp [cj])
      have z0:=Q2s (Q6 HOj) j
      have hgC:C+1≤g:=((Q6 HOj).lt g rfl).1
      have HOn:=Qa (Q42 (Q6 HOj) j (.string mk))
      rw [Qj9 mk L j cj] at HOn
      generalize L[j]=y at *
      go_wp2_with fail
      go_roundg (L.length+1 - (j+1))
      case measure=>omega
      case rel=>exact ⟨j+1,by go_num,by omega,rfl,HOn,Qa ((Q6 HBj).setCell (p:=⟨g,j,none⟩) hgC _),by rw [Q0l]; exact hsj,Qa ((Q6 HKj).trans (KFr.own (Q6 HOj) j _))⟩
     ·have ej:j=L.length:=by omega
      subst ej
      have hT:List.replicate L.length mk++L.drop L.length=List.replicate L.length mk:=by rw [List.drop_length,List.append_nil]
      have HOT:=HOj
      rw [hT] at HOT
      have hTl:(List.replicate L.length mk).length=L.length:=List.length_replicate
      have HL10:=Qa ((Q6 HL9).belowN (Q6 HBl) (Q6 HBj))
      have HSF10:=Qa ((Q6 HSF9).trans (SFr.below (N:=C) (A:=A) ((Q6 HBj).mono (by omega))))
      have HB10:=Qa ((Q6 HB9).trans ((Q6 HBj).mono (by omega)))
      have HRS10:=Qa (Qh0 (Q6 HOT) hAC)
      clear HOj hT HL9 HSF9 HB9 HBj HO9
      generalize hTT:List.replicate L.length mk=T at *
      clear hTT
      generalize L.length=ln at *
      generalize wr=w10 at *
      have hmb:(mk++⟨#[32,98,101,121,111,110,100]⟩).size≤80:=by
       rw [ByteArray.size_append]
       have:(⟨#[32,98,101,121,111,110,100]⟩:ByteArray).size=7:=rfl
       omega
      have hadd:∀ W:World,(Op.stringOp .add mk ⟨#[32,98,101,121,111,110,100]⟩).run Tryz.prog W=.ok (.string (mk++⟨#[32,98,101,121,111,110,100]⟩)) W:=fun W=>run_string_add_sum W mk _ (by have:(⟨#[32,98,101,121,111,110,100]⟩:ByteArray).size=7:=rfl; omega)
      go_wp2_with fail
      go_loopg [13,14] 10 (fun g vx vi w'=>∃ (j:Nat) (ax:Option Addr) (cx':Nat) (ks:List Value),vi=.int .i64 j∧vx=.slice ax (ln+j) cx'∧j≤9∧g=10 - j∧Hid (w'.ownsRow (C+1) 9 1 (.slice ax (ln+j) cx') (ln+j) (stC T++ks))∧Hid (RowS w' A al T)∧Hid (Below (C+1) w10 w')∧C+1≤w'.heap.size∧Hid (KFr w w'))
      case atStart=>exact ⟨0,al,cl,[],rfl,rfl,by omega,rfl,by rw [List.append_nil]; exact HOT,HRS10,Qa (Below.refl _ _),hsj,HKj⟩
      case round =>
       obtain ⟨j,ax,cx',ks,rfl,rfl,hj9,rfl,HOx,HRS,HBx,hsx,HKx⟩:=hrel
       by_cases cj9:j < 9
       ·have hA9:=(Below.refl wr.heap.size wr).alloc (Nat.le_refl _) (.cells #[.string (mk++⟨#[32,98,101,121,111,110,100]⟩)] 9)
        have HOa:=Qa ((Q6 HOx).alloc (.cells #[.string (mk++⟨#[32,98,101,121,111,110,100]⟩)] 9))
        have HRa:=Qa ((Q6 HRS).fr (SFr.below hA9))
        have HA9:=Qa hA9
        clear hA9
        go_wp2_with (at_builtin; refine Q7k _ rfl _ _ 34 34 rfl (C+1) 9 i0 (.string ⟨#[]⟩) 1 16 Tryz.underlying34 (Q6 Hi) (Q6 Hz0) (Q6 Hz1) (Q6 Hz2) rfl (.slice ax (ln+j) cx') (ln+j) (stC T++ks) (by rfl) (Q6 HOa) (.slice (some ⟨wr.heap.size,0,none⟩) 1 1) 1 [.string (mk++⟨#[32,98,101,121,111,110,100]⟩)] (by rfl) (Src.ofSlice _ Tryz.underlying34 ⟨wr.heap.size,0,none⟩ 1 1 _ rfl (Q1O _ _ _ _ rfl) (fun x hx=>by simp at hx; subst hx; rfl)) (by unfold maxLen; omega) (by omega) (by simp; omega) ?_; intro a4 e4 w4' hown4 hgrow4 hat4 hkeep4)
        go_roundg (10 - (j+1))
        case measure=>omega
        case rel =>
         have hB4:=((Q6 HA9).mono hsx).trans (Qn (Q6 HOa) hgrow4 (Nat.le_trans hsx (Q6 HA9).size))
         exact ⟨j+1,a4,e4,ks++[.string (mk++⟨#[32,98,101,121,111,110,100]⟩)],by go_num,rfl,by omega,rfl,Qa (by rw [←List.append_assoc]; exact hown4),Qa ((Q6 HRa).app (Q6 HOa) hgrow4 hkeep4),Qa ((Q6 HBx).trans hB4),Nat.le_trans hsx hB4.size,Qa (((Q6 HKx).trans (KFr.below (Q6 HA9))).trans (KFr.app (Q6 HOa) (by decide) hgrow4))⟩
       ·have HL11:=Qa ((Q6 HL10).belowN (Q6 HBl) (Q6 HBx))
        have HSF11:=Qa ((Q6 HSF10).trans (SFr.below (N:=C) (A:=A) ((Q6 HBx).mono (by omega))))
        have HB11:=Qa ((Q6 HB10).trans ((Q6 HBx).mono (by omega)))
        clear HL10 HSF10 HB10 HBx HOx HOT HRS10 hadd hmb
        generalize wr=w11 at *
        go_upto_region 25 with fail
        have hA11:=(Below.refl w11.heap.size w11).alloc (Nat.le_refl _) (.cells #[.slice al ln cl] 34)
        have HLa:=Qa ((Q6 HL11).below hA11)
        have HRa:=Qa ((Q6 HRS).fr (SFr.below hA11))
        have HA11:=Qa hA11
        have b3:w11.cell? ⟨B,3,none⟩=some v1:=Qc (Q6 HL11).hB 3
        have e3:(w11.alloc (.cells #[.slice al ln cl] 34)).cell? ⟨B,3,none⟩=some v1:=Qc (Q6 HLa).hB 3
        have hMx:M≤w11.heap.size:=by omega
        clear hA11
        go_upto_region 26 with (at_builtin; refine Qe _ rfl _ _ 44 44 rfl M 34 i5 (.slice none 0 0) 1 24 Tryz.underlying44 (Q6 Hj) (Q6 Hy0) (Q6 Hy1) (Q6 Hy2) rfl v1 n o1 (by rfl) (Q6 HLa).h1 (.slice (some ⟨w11.heap.size,0,none⟩) 1 1) 1 [.slice al ln cl] (by rfl) (Src.ofSlice _ Tryz.underlying44 ⟨w11.heap.size,0,none⟩ 1 1 _ rfl (Q1O _ _ _ _ rfl) (fun x hx=>by simp at hx; subst hx; rfl)) (by unfold maxLen; omega) (by omega) (by simp; omega) ?_; intro a12 e12 w12 hown12 hgrow12 hat12; have hB12:=Q02 (Q6 HLa).h1 hgrow12 (Q6 HLa).hB (by decide); have b0:w12.cell? ⟨B,3,none⟩=some v1:=Qc hB12 3; have z0:=Qd hB12 3; have HOwn12:=Qa hown12; have HGrow12:=Qa hgrow12; have HAt12:=Qa hat12; have HB12:=Qa hB12; clear hown12 hgrow12 hat12 hB12)
        have HL13:=Qa ((Q6 HLa).out1 (Q6 HOwn12) (Q6 HGrow12) (Q6 HAt12))
        have HS12:Hid (∀ N,SFr N A w11 (w12.setCell ⟨B,3,none⟩ (.slice a12 (n+1) e12))):=Qa fun N=>by
         have q1:SFr N A (w11.alloc (.cells #[.slice al ln cl] 34)) w12:=SFr.app (Q6 HLa).h1 (by decide) (Q6 HGrow12)
         have q2:SFr N A w12 (w12.setCell ⟨B,3,none⟩ (.slice a12 (n+1) e12)):=SFr.turn (Q6 HB12) (by decide) (Ql w12 B 3 _)
         have q0:SFr N A w11 (w11.alloc (.cells #[.slice al ln cl] 34)):=fun b cs z hb hA hq=>((Q6 HA11).block b (Qb hq)).trans hq
         exact (q0.trans q1).trans q2
        have HSF13:=Qa ((Q6 HSF11).trans (Q6 HS12 C))
        have HK13:=Qa ((((Q6 HKx).trans (KFr.below (Q6 HA11))).trans (KFr.app (Q6 HLa).h1 (by decide) (Q6 HGrow12))).trans (KFr.turn (Q6 HB12) (by decide) (Ql w12 B 3 (.slice a12 (n+1) e12))))
        have HRS13:=Qa ((Q6 HRS).fr (Q6 HS12 _))
        have HB13:=Qa ((Q6 HB11).trans ((((Q6 HA11).mono hMx).trans (Qn (Q6 HLa).h1 (Q6 HGrow12) (Nat.le_trans hMx (Q6 HA11).size))).setCell (p:=⟨B,3,none⟩) hM.1 (.slice a12 (n+1) e12)))
        have hs13:C+1≤(w12.setCell ⟨B,3,none⟩ (.slice a12 (n+1) e12)).heap.size:=by have:=(Q6 HGrow12).size; have:=(Q6 HA11).size; rw [Q0l]; omega
        clear HLa HRa HA11 HL11 HSF11 HB11 HRS HKx HOwn12 HGrow12 HAt12 HB12 HS12 b3 e3 b0 z0 hMx hsx hsj
        generalize w12.setCell ⟨B,3,none⟩ (.slice a12 (n+1) e12)=w13 at *
        have hms:(madeCells #[.string ⟨#[]⟩] (ln * 1)).size=ln * 1:=size_madeCells _ _
        have HMs:=Qa hms
        have HOne:=Qa (Qg5 T)
        have hcl:(stC T).length=ln:=by rw [Q4j]; exact hTl
        have HCl:=Qa hcl
        obtain ⟨g,hg⟩:∃ g,w13.heap.size=g:=⟨_,rfl⟩
        have hAg:g≠A:=by omega
        have hCg:C+1≤g:=by omega
        clear hms hcl
        go_upto_region 28 with (first | (at_make; refine wpList_make_full _ rfl _ _ 34 rfl w13.heap.size 9 i0 (.string ⟨#[]⟩) 1 Tryz.underlying34 (Q6 Hi) (Q6 Hz0) (Q6 Hz1) .i64 .i64 (ln:Int) (ln:Int) ln (by rfl) (by rfl) (by omega) (by omega) (by rw [Q6 Hz2]; omega) (by unfold maxLen; omega) (Nat.le_refl _) ?_; intro w14 hown14 hgrow14; have hg14:=Q54 hown14; rw [hg,Array.toArray_toList] at hg14; have HG14:Hid (w14.heap[g]? = some (.cells (madeCells #[.string ⟨#[]⟩] (ln * 1)) 9 (0,0))):=hg14; have HB14:Hid (Below g w13 w14):=Qa ⟨hgrow14.os,hgrow14.tape,hgrow14.output,hgrow14.size,fun k hk=>hgrow14.block k (by omega) (by simp)⟩; clear hown14 hgrow14 hg14; rw [hg]))
        have hRow14:=((Q6 HRS13).fr (SFr.below (by rw [hg]; exact Q6 HB14))).row
        have hfit:(stC T).length≤(madeCells #[.string ⟨#[]⟩] (ln * 1)).size:=by rw [Q6 HCl,Q6 HMs]; omega
        have hlen5:(stC T).length=ln * i0.size:=by rw [Q6 Hz1,Nat.mul_one]; exact Q6 HCl
        obtain ⟨w15,hw15⟩:∃ w15,w14.setRow g (stC T++(madeCells #[.string ⟨#[]⟩] (ln * 1)).toList.drop (stC T).length).toArray=w15:=⟨_,rfl⟩
        have hg15:=setRow_heap w14 g _ (stC T++(madeCells #[.string ⟨#[]⟩] (ln * 1)).toList.drop (stC T).length).toArray 9 _ (Q6 HG14)
        have hB15:=below_setRow (Q6 HB14) (Nat.le_refl g) (stC T++(madeCells #[.string ⟨#[]⟩] (ln * 1)).toList.drop (stC T).length).toArray
        rw [hw15] at hg15 hB15
        rw [Q35 w14 34 34 3 9 i0 g ln ln al ln cl _ 9 (stC T) Tryz.underlying34 (Q6 Hi) (Q6 HG14) hlen5 (by omega) hRow14.addr hfit (Q6 HOne),hw15]
        have HRo:Hid (RowS w15 A (some ⟨g,0,none⟩) T):=Qa fun _=>⟨g,_,_,rfl,hAg,hg15,fun j u hu=>by
         rw [List.getElem?_toArray,List.getElem?_append_left (List.getElem?_eq_some_iff.1 hu).1]
         exact hu⟩
        have HL15:=Qa ((Q6 HL13).below (by rw [hg]; exact hB15))
        have HRS15:=Qa ((Q6 HRS13).fr (SFr.below (by rw [hg]; exact hB15)))
        have HSF15:=Qa ((Q6 HSF13).trans (SFr.below (N:=C) (A:=A) (hB15.mono (by omega))))
        have HB15:=Qa ((Q6 HB13).trans (hB15.mono (by omega)))
        have HK15:=Qa ((Q6 HK13).trans (KFr.below (by rw [hg]; exact hB15)))
        have hs15:C+1≤w15.heap.size:=Nat.le_trans hs13 hB15.size
        clear hRow14 hfit hlen5 hw15 hg15 hB15 HB14 HG14 HL13 HRS13 HSF13 HB13 HK13 hs13 hg HMs HOne
        have hA15:=(Below.refl w15.heap.size w15).alloc (Nat.le_refl _) (.cells #[.slice (some ⟨g,0,none⟩) ln ln] 34)
        have HLb:=Qa ((Q6 HL15).below hA15)
        have HA15:=Qa hA15
        have b4:w15.cell? ⟨B,4,none⟩=some v2:=Qc (Q6 HL15).hB 4
        have e4:(w15.alloc (.cells #[.slice (some ⟨g,0,none⟩) ln ln] 34)).cell? ⟨B,4,none⟩=some v2:=Qc (Q6 HLb).hB 4
        have hMx:M≤w15.heap.size:=by omega
        clear hA15
        go_upto_region 29 with (at_builtin; refine Qe _ rfl _ _ 44 44 rfl M 34 i5 (.slice none 0 0) 1 24 Tryz.underlying44 (Q6 Hj) (Q6 Hy0) (Q6 Hy1) (Q6 Hy2) rfl v2 n o2 (by rfl) (Q6 HLb).h2 (.slice (some ⟨w15.heap.size,0,none⟩) 1 1) 1 [.slice (some ⟨g,0,none⟩) ln ln] (by rfl) (Src.ofSlice _ Tryz.underlying44 ⟨w15.heap.size,0,none⟩ 1 1 _ rfl (Q1O _ _ _ _ rfl) (fun x hx=>by simp at hx; subst hx; rfl)) (by unfold maxLen; omega) (by omega) (by simp; omega) ?_; intro a16 e16 w16 hown16 hgrow16 hat16; have hB16:=Q02 (Q6 HLb).h2 hgrow16 (Q6 HLb).hB (by decide); have b0:w16.cell? ⟨B,4,none⟩=some v2:=Qc hB16 4; have z0:=Qd hB16 4; have HOwn16:=Qa hown16; have HGrow16:=Qa hgrow16; have HAt16:=Qa hat16; have HB16:=Qa hB16; clear hown16 hgrow16 hat16 hB16)
        have HL17:=Qa ((Q6 HLb).out2 (Q6 HOwn16) (Q6 HGrow16) (Q6 HAt16))
        have HS16:Hid (∀ N,SFr N A w15 (w16.setCell ⟨B,4,none⟩ (.slice a16 (n+1) e16))):=Qa fun N=>by
         have q1:SFr N A (w15.alloc (.cells #[.slice (some ⟨g,0,none⟩) ln ln] 34)) w16:=SFr.app (Q6 HLb).h2 (by decide) (Q6 HGrow16)
         have q2:SFr N A w16 (w16.setCell ⟨B,4,none⟩ (.slice a16 (n+1) e16)):=SFr.turn (Q6 HB16) (by decide) (Ql w16 B 4 _)
         have q0:SFr N A w15 (w15.alloc (.cells #[.slice (some ⟨g,0,none⟩) ln ln] 34)):=fun b cs z hb hA hq=>((Q6 HA15).block b (Qb hq)).trans hq
         exact (q0.trans q1).trans q2
        have HSF17:=Qa ((Q6 HSF15).trans (Q6 HS16 C))
        have HK17:=Qa ((((Q6 HK15).trans (KFr.below (Q6 HA15))).trans (KFr.app (Q6 HLb).h2 (by decide) (Q6 HGrow16))).trans (KFr.turn (Q6 HB16) (by decide) (Ql w16 B 4 (.slice a16 (n+1) e16))))
        have HRS17:=Qa ((Q6 HRS15).fr (Q6 HS16 _))
        have HRo17:=Qa ((Q6 HRo).fr (Q6 HS16 _))
        have HB17:=Qa ((Q6 HB15).trans ((((Q6 HA15).mono hMx).trans (Qn (Q6 HLb).h2 (Q6 HGrow16) (Nat.le_trans hMx (Q6 HA15).size))).setCell (p:=⟨B,4,none⟩) hM.1 (.slice a16 (n+1) e16)))
        clear HLb HA15 HL15 HSF15 HB15 HK15 HRS15 HRo HOwn16 HGrow16 HAt16 HB16 HS16 b4 e4 b0 z0 hMx
        generalize w16.setCell ⟨B,4,none⟩ (.slice a16 (n+1) e16)=w17 at *
        go_wp2_with fail
        go_ret
        refine ⟨rfl,Q6 HB17,Q6 HK17,n+1,Nat.le_refl _,X,A,G,cx,ca,cg,xs,_,_,R,_,_,_,_,_,Q6 HL17,Q6 HX,?_,?_,hR,hM,?_,?_⟩
        ·intro i hi
         by_cases ei:i=k
         ·subst ei
          simp only [if_pos]
          exact Qak (Q6 HTs i hi)
         ·simp only [if_neg ei]
          exact QbI (Q6 HTs i hi) ei
        ·intro i hi
         by_cases ei:i=k
         ·subst ei
          simp only [if_pos]
          rw [Q6 HD,hdl]
          exact Qak (Q6 HGs i hi)
         ·simp only [if_neg ei]
          exact QbI (Q6 HGs i hi) ei
        ·have hh:=Q6 HPQ
         have:k=0∨k=1:=by omega
         rcases this with rfl | rfl
         ·simp only [if_pos,if_neg (show ¬ ((1:Nat)=0) by omega)]
          exact hh
         ·simp only [if_pos,if_neg (show ¬ ((0:Nat)=1) by omega)]
          rw [Nat.add_comm]
          exact hh
        ·intro i hi
         by_cases ei:i < n
         ·obtain ⟨a,c,a2,c2,U,q1,q2,q3,q4,q5⟩:=Q6 hal2 i ei
          have hfr:SFr w.heap.size A w w17:=by rw [Q6 HCs]; exact Q6 HSF17
          exact ⟨a,c,a2,c2,U,by rw [List.getElem?_append_left (by rw [Q6 HOL1]; exact ei)]; exact q1,by rw [List.getElem?_append_left (by rw [Q6 HOL2]; exact ei)]; exact q2,q3,q4.fr hfr,q5.fr hfr⟩
         ·have ein:i=n:=by omega
          subst ein
          refine ⟨al,cl,some ⟨g,0,none⟩,ln,T,?_,?_,by omega,Q6 HRS17,Q6 HRo17⟩
          ·rw [hTl,List.getElem?_append_right (by rw [Q6 HOL1]; exact Nat.le_refl _),Q6 HOL1,Nat.sub_self]
           rfl
          ·rw [hTl,List.getElem?_append_right (by rw [Q6 HOL2]; exact Nat.le_refl _),Q6 HOL2,Nat.sub_self]
           rfl
 ·have ek:k=2:=by omega
  subst ek
  go_wp2_with fail
  refine (Qd8 s _).mono ?_
  rintro r w2 ⟨rfl,rfl⟩
  go_wp2_with fail
  go_ret
  exact ⟨rfl,(Q6 HA0).mono hMs,KFr.below (by rw [Q6 HCs]; exact Q6 HA0),n,by omega,(Q6 HLsA).less (by omega)⟩
structure Ck where
 feed:Int
 s:ByteArray
 look:Bool
def ck3 (c:Ck):List Value:=[.int .i64 c.feed,.string c.s,.bool c.look]
def ckC (l:List Ck):List Value:=l.flatMap ck3
def szC:List Ck→Nat
 | []=>0
 | c :: l=>c.s.size+szC l
theorem Qfw (l:List Ck):(ckC l).length=l.length * 3:=by
 induction l with
 | nil=>rfl
 | cons x l ih=>simp only [ckC,List.flatMap_cons,List.length_append,List.length_cons] at ih ⊢; rw [ih]; show 3+_=_; omega
theorem Q7y:∀ (l:List Ck) (i:Nat) (h:i < l.length) (j:Nat),j < 3→(ckC l)[i * 3+j]? = (ck3 l[i])[j]?
 | x :: l,0,_,j,hj=>by
  show (ck3 x++ckC l)[0 * 3+j]? = (ck3 x)[j]?
  rw [Nat.zero_mul,Nat.zero_add,List.getElem?_append_left (by show j < 3; exact hj)]
 | x :: l,i+1,h,j,hj=>by
  have h':i < l.length:=by simpa using h
  show (ck3 x++ckC l)[(i+1) * 3+j]? = (ck3 l[i])[j]?
  rw [List.getElem?_append_right (by show 3≤_; omega)]
  have:=Q7y l i h' j hj
  rw [←this]
  congr 1
  show (i+1) * 3+j - 3=_
  omega
theorem Ql6 {w:World} {N:Nat} {a:Option Addr} {l:List Ck} (h:RowAt w N a (ckC l)) (i:Nat) (hi:i < l.length) :
  ∃ b o,a=some ⟨b,o,none⟩∧b < N∧w.cell? ⟨b,o+i * 3,none⟩=some (.int .i64 l[i].feed)∧w.cell? ⟨b,o+i * 3+1,none⟩=some (.string l[i].s)∧w.cell? ⟨b,o+i * 3+2,none⟩=some (.bool l[i].look):=by
 obtain ⟨b,o,h1,h2,h3⟩:=h (fun e=>by have:=Qfw l; rw [e] at this; simp at this; omega)
 refine ⟨b,o,h1,h2,?_,?_,?_⟩
 ·exact h3 (i * 3+0) _ (Q7y l i hi 0 (by omega))
 ·exact h3 (i * 3+1) _ (Q7y l i hi 1 (by omega))
 ·exact h3 (i * 3+2) _ (Q7y l i hi 2 (by omega))
theorem Q5E:∀ a b,szC (a++b)=szC a+szC b
 | [],b=>(Nat.zero_add _).symm
 | x :: a,b=>by show x.s.size+szC (a++b)=x.s.size+szC a+szC b; rw [Q5E a b]; omega
theorem QdW (l:List Ck) (j:Nat) (h:j < l.length):szC (l.take (j+1))=szC (l.take j)+l[j].s.size:=by
 rw [List.take_succ_eq_append_getElem h,Q5E]
 rfl
theorem Q8X (l:List Ck) (j:Nat):szC (l.take j)≤szC l:=by
 conv=>rhs; rw [←List.take_append_drop j l]
 rw [Q5E]
 omega
theorem Qbg:Q11 ⟨#[]⟩ 0=([],0):=Q4S fun h=>absurd h.1 (by decide)
theorem Qa3 {w:World} {N:Nat} {e:TypeId} {v x y:Value} (h:w.ownsRow N e 1 v 2 [x,y]):∃ (g c:Nat) (cs:Array Value),v=.slice (some ⟨g,0,none⟩) 2 c∧N≤g∧w.heap[g]? = some (.cells cs e (0,0))∧cs[0]? = some x∧cs[1]? = some y:=by
 rcases h.2 with ⟨_,h2⟩ | ⟨g,cap,cur,h1,h2,h3,h4,h5,h6,h7⟩
 ·cases h2
 ·refine ⟨g,cap,cur,h1,h2,h3,?_,?_⟩
  ·have:=congrArg (fun l=>l[0]?) h7
   simp only [List.getElem?_take] at this
   simpa using this
  ·have:=congrArg (fun l=>l[1]?) h7
   simp only [List.getElem?_take] at this
   simpa using this
theorem Ql4 {w:World} {N:Nat} {vx va vg:Value} {R0 R1:Nat} (h:Bg w N vx 2 [R0,R1] va 2 [.string ⟨#[]⟩,.string ⟨#[]⟩] vg 2 [.int .i64 0,.int .i64 0]) (hR:R0≠R1):Lst w N N 0 0:=by
 obtain ⟨X,cx,xs,rfl,x1,x2,x3,x4⟩:=Qa3 (show w.ownsRow N _ 1 vx 2 [.pointer (some ⟨R0,0,none⟩),.pointer (some ⟨R1,0,none⟩)] from h.hx)
 obtain ⟨A,ca,ts,rfl,a1,a2,a3,a4⟩:=Qa3 h.ha
 obtain ⟨G,cg,gs,rfl,g1,g2,g3,g4⟩:=Qa3 h.hg
 have two:∀ {P:Nat→Prop},P 0→P 1→∀ k,k < 2→P k:=fun h0 h1 k hk=>by
  have:k=0∨k=1:=by omega
  rcases this with rfl | rfl
  ·exact h0
  ·exact h1
 refine ⟨X,A,G,cx,ca,cg,xs,ts,gs,fun k=>if k=0 then R0 else R1,fun _=>⟨#[]⟩,.slice none 0 0,[],.slice none 0 0,[],⟨h.hB,x2,a2,g2,World.ownsRow_nil _ _ _ _,World.ownsRow_nil _ _ _ _,?_,two ?_ ?_⟩,two x3 x4,two a3 a4,two ?_ ?_,hR,⟨Nat.le_refl _,a1,g1,two ?_ ?_⟩,Nat.le_refl _,fun i hi=>by omega⟩
 ·intro g hg
  simp [Value.ownBlock] at hg
 ·exact Qi9 (h.hf R0 (by simp)).2
 ·exact Qi9 (h.hf R1 (by simp)).2
 ·rw [Qbg]; exact g3
 ·rw [Qbg]; exact g4
 ·exact (h.hf R0 (by simp)).1
 ·exact (h.hf R1 (by simp)).1
theorem QcX {M B n m:Nat} {w:World} (h:Lst w M B n m) (hn:n≤67108864) :
  Calls Tryz.prog 7 #[.pointer (some ⟨B,0,none⟩)] w fun r w'=>r=.returned (.bool true)∧∃ t,w'=w.drewN t:=by
 obtain ⟨X,A,G,cx,ca,cg,xs,ts,gs,R,p,v1,o1,v2,o2,hl,hx,ha,hg,hR,hM,hp,hal⟩:=h
 obtain ⟨av1,cv1,rfl⟩:=Q3f hl.h1
 obtain ⟨av2,cv2,rfl⟩:=Q3f hl.h2
 refine QgM B n M av1 av2 cv1 cv2 _ _ _ o1 o2 w hl.hB hl.h1 hl.h2 (fun i hi=>?_) hn
 obtain ⟨a,c,a2,c2,T,q1,q2,q3,q4,q5⟩:=hal i hi
 exact ⟨a,c,a2,c2,T,q1,q2,q3,q4.row,q5.row⟩
set_option maxRecDepth 100000 in
set_option maxHeartbeats 2000000 in
theorem QdV (l:List ByteArray) (a:Option Addr) (c N:Nat) (sc:List Ck) (a2:Option Addr) (c2:Nat) (w:World) (hrow:RowAt w N a (stC l)) (hrow2:RowAt w N a2 (ckC sc)) (hN:N≤w.heap.size) (hl:l.length≤1048576) (hz:Q2r l≤67108864)
  (hsl:sc.length≤1048576) (hsz:szC sc≤1048576) (hint:∀ i (h:i < sc.length),-9223372036854775808≤sc[i].feed∧sc[i].feed < 9223372036854775808)
  (htab : Lib.TabIs Tryz.prog w "internal/strconv.uint64pow10" .u64 Lib.pow10Tab) :
  Calls Tryz.prog 12 #[.slice a l.length c,.slice a2 sc.length c2] w fun e w'=>e=.returned (.bool true)∧Below w.heap.size w w':=by
 have K1:=Qa (Qeu l a c N w hrow hN (by omega) hz)
 have HRow:=Qa (fun W (h:Below N w W)=>hrow2.below h)
 have HTab:=Qa (Lib.tabBelow_of_tabIs htab)
 have HInt:=Qa hint
 have HSz:=Qa (fun j (h:j < sc.length)=>QdW sc j h)
 have HSz2:=Qa (fun j=>Q8X sc j)
 clear hrow hrow2 htab hint hz
 go_enter Tryz.func12,Tryz.ntmps12
 go_wp2_with fail
 refine (Q6 K1).mono ?_
 rintro e w1 ⟨rfl,q1⟩
 have HB1:=Qa q1
 have hs1:w.heap.size≤w1.heap.size:=q1.size
 have K2:=Qa (QcF w1)
 clear q1 K1
 go_wp2_with fail
 refine (Q6 K2).mono ?_
 rintro e w2 ⟨vx,va,vg,R0,R1,rfl,q2,q3,q4⟩
 have HLs:=Qa (Ql4 q2 q3)
 have HB2:=Qa ((Q6 HB1).trans (q4.mono hs1))
 have hs2:w1.heap.size≤w2.heap.size:=q4.size
 clear q2 q3 q4 K2 HB1
 obtain ⟨M,hM⟩:∃ M,w1.heap.size=M:=⟨_,rfl⟩
 rw [hM] at hs1 hs2 HLs
 simp only [hM]
 clear hM
 have HT2 : Hid (∀ W, Below M w2 W → Lib.TabBelow Tryz.prog M W "internal/strconv.uint64pow10" .u64 Lib.pow10Tab) := Qa fun W h1 W' h2 => Q6 HTab W' ((Q6 HB2).trans ((h1.trans h2).mono hs1))
 go_wp2_with fail
 go_loopg [7] (sc.length+1) (fun g vi w'=>∃ j n m:Nat,vi=.int .i64 j∧j≤sc.length∧g=sc.length+1 - j∧n≤j∧m≤1048576∧Hid (m≤szC (sc.take j))∧Hid (Lst w' M M n m)∧Hid (Below M w2 w'))
 case atStart=>exact ⟨0,0,0,rfl,Nat.zero_le _,rfl,Nat.le_refl _,Nat.zero_le _,Qa (Nat.zero_le _),HLs,Qa (Below.refl _ _)⟩
 case round =>
  obtain ⟨j,n,m,rfl,hj,rfl,hnj,hm,HMz,HL,HBw⟩:=hrel
  by_cases cj:j < sc.length
  ·obtain ⟨b,o,rfl,hb,x0,x1,x2⟩:=Ql6 (Q6 HRow _ (((Q6 HB2).trans ((Q6 HBw).mono hs1)).mono hN)) j cj
   have hf:=Q6 HInt j cj
   have hz3:=Q6 HSz j cj
   have hz4:=Q6 HSz2 (j+1)
   have hz5:=Q6 HMz
   have KP:=Qa (Qa5 M M n m sc[j].feed sc[j].s sc[j].look wr (Q6 HL) hf.1 hf.2 (by omega) (by omega) (Q6 HT2 _ (Q6 HBw)))
   have hm2:m+sc[j].s.size≤1048576:=by omega
   have HMn:Hid (m+sc[j].s.size≤szC (sc.take (j+1))):=Qa (by omega)
   clear hz3 hz4 hz5 hf
   generalize sc[j]=ck at *
   obtain ⟨f,s,look⟩:=ck
   simp only at x0 x1 x2 KP hm2 HMn
   go_wp2_with fail
   refine (Q6 KP).mono ?_
   rintro e w3 ⟨rfl,q1,_,n',q2,q3⟩
   have HB3:=Qa ((Q6 HBw).trans q1)
   have KL:=Qa (QcX q3 (by omega))
   have HL3:=Qa q3
   clear q1 q3 KP
   go_wp2_with fail
   refine (Q6 KL).mono ?_
   rintro e w4 ⟨rfl,t,rfl⟩
   go_wp2_with fail
   go_roundg (sc.length+1 - (j+1))
   case measure=>omega
   case rel=>exact ⟨j+1,n',m+s.size,by go_num,by omega,rfl,by omega,hm2,HMn,Qa ((Q6 HL3).below (Q0S _ _ _)),Qa ((Q6 HB3).trans (Q0S _ _ _))⟩
  ·go_wp2_with fail
   go_ret
   exact ⟨rfl,(Q6 HB2).trans ((Q6 HBw).mono hs1)⟩
end Go.Proofs.YtdhobdmhnocbgabGreatDoor
namespace Go.Proofs.YtdhobdmhnocbgabGreatDoor
open Go.ChangeShapes Go.WideShapes Go.ChangeAt Go.RowKit Go.Deep Zr
theorem QhR:Tryz.prog.cellsOf 59=3:=by kernel_rfl
theorem Qfu:Tryz.prog.cellsOf 3=1:=by kernel_rfl
theorem Qfv:Tryz.prog.cellsOf 9=1:=by kernel_rfl
theorem Qft:Tryz.prog.cellsOf 4=1:=by kernel_rfl
instance:Inhabited Ck:=⟨⟨0,⟨#[]⟩,false⟩⟩
section
variable {H:Type} {enc:TypeId × Value→H} {W:World}
set_option maxRecDepth 10000 in
theorem QlA {fuel:Nat} {cs:List Value} {x:DataW H × List MemPlace} (h:DataW.trod enc Tryz.prog W 0 (fun _=>true) true fuel 59 cs=some x) :
  ∃ q:Ck,cs=ck3 q∧q.s.size+1≤Rows.uptoBulk x.1∧-9223372036854775808≤q.feed∧q.feed < 9223372036854775808:=by
 obtain ⟨xs,n,_,rfl,hl,hxl,hf⟩:=DataW.trod_struct Tryz.underlying59 h
 rw [QhR] at hl
 obtain ⟨c0,c1,c2,rfl⟩:∃ c0 c1 c2,cs=[c0,c1,c2]:=by
  match cs,hl with
  | [c0,c1,c2],_=>exact ⟨c0,c1,c2,rfl⟩
 obtain ⟨y0,y1,y2,rfl⟩:∃ y0 y1 y2,xs=[y0,y1,y2]:=by
  match xs,hxl with
  | [y0,y1,y2],_=>exact ⟨y0,y1,y2,rfl⟩
 have g0:DataW.trod enc Tryz.prog W 0 (fun _=>true) true n 3 (([c0,c1,c2].drop 0).take (Tryz.prog.cellsOf 3))=some y0:=hf 0 _ rfl
 have g1:DataW.trod enc Tryz.prog W 0 (fun _=>true) true n 9 (([c0,c1,c2].drop 1).take (Tryz.prog.cellsOf 9))=some y1:=hf 1 _ rfl
 have g2:DataW.trod enc Tryz.prog W 0 (fun _=>true) true n 4 (([c0,c1,c2].drop 2).take (Tryz.prog.cellsOf 4))=some y2:=hf 2 _ rfl
 simp only [Qfu,Qfv,Qft,List.drop,List.take] at g0 g1 g2
 obtain ⟨v0,e0,rfl,w0⟩:=DataW.trod_int Tryz.underlying3 g0
 obtain ⟨v1,e1,rfl,_⟩:=DataW.trod_string Tryz.underlying9 g1
 obtain ⟨v2,e2,rfl⟩:=DataW.trod_bool Tryz.underlying4 g2
 simp only [List.cons.injEq,and_true] at e0 e1 e2
 subst e0 e1 e2
 unfold Lit.wf at w0
 rw [Bool.and_eq_true] at w0
 refine ⟨⟨v0,v1,v2⟩,rfl,?_,of_decide_eq_true w0.1,?_⟩
 ·have b1:=Q9v (H:=H) v1
  simp only [List.map_cons,List.map_nil,Rows.uptoBulk,Rows.uptoBulkAll] at b1 ⊢
  omega
 ·have h2:v0≤9223372036854775807:=of_decide_eq_true w0.2
  show v0 < _
  omega
theorem Q7x:∀ l r:List (DataW H),Rows.uptoBulkAll (l++r)=Rows.uptoBulkAll l+Rows.uptoBulkAll r
 | [],r=>by simp [Rows.uptoBulkAll]
 | x :: l,r=>by
  simp only [List.cons_append,Rows.uptoBulkAll]
  rw [Q7x l r]
  omega
theorem QcK (D:Nat→DataW H) (f:Nat→Ck):∀ n,(∀ i,i < n→(f i).s.size+1≤Rows.uptoBulk (D i))→n+szC ((List.range n).map f)≤Rows.uptoBulkAll ((List.range n).map D)
 | 0,_=>by simp [szC]
 | n+1,h=>by
  have ih:=QcK D f n fun i hi=>h i (by omega)
  have hn:=h n (by omega)
  rw [List.range_succ,List.map_append,List.map_append,Q7x,Q5E]
  simp only [List.map_cons,List.map_nil,Rows.uptoBulkAll,szC]
  omega
theorem Qkt {fuel:Nat} {v:Value} {x:DataW H × List MemPlace} (h:DataW.trod enc Tryz.prog W 0 (fun _=>true) true fuel 35 [v]=some x) :
  ∃ (a:Option Addr) (l:List Ck) (c:Nat),v=.slice a l.length c∧l.length≤c∧RowAt W W.heap.size a (ckC l)∧l.length+szC l≤Rows.uptoBulk x.1∧∀ i (h:i < l.length),-9223372036854775808≤l[i].feed∧l[i].feed < 9223372036854775808:=by
 rcases open_slice Tryz.underlying35 h with ⟨h0,_⟩ | ⟨a,len,cap,m,n,D,Pl,hc,_,hl,_,hm,rfl,hel⟩
 ·simp only [List.cons.injEq,and_true] at h0
  exact ⟨none,[],0,h0,Nat.le_refl _,fun hx=>absurd rfl hx,Nat.zero_le _,fun i hi=>by simp at hi⟩
 ·simp only [List.cons.injEq,and_true] at hc
  simp only [if_true] at hm
  subst hm
  have hel':∀ i,i < m→∃ q:Ck,W.cells? 0 (a.add (i * 3)) 3=some (ck3 q)∧q.s.size+1≤Rows.uptoBulk (D i)∧-9223372036854775808≤q.feed∧q.feed < 9223372036854775808:=by
   intro i hi
   obtain ⟨cs',h1,h2⟩:=hel i hi
   rw [QhR] at h1
   obtain ⟨q,rfl,h3⟩:=QlA h2
   exact ⟨q,h1,h3⟩
  obtain ⟨f,hf⟩:=choose_lt hel'
  have hll:((List.range len).map f).length=len:=by simp
  refine ⟨some a,(List.range len).map f,m,by rw [hll]; exact hc,by rw [hll]; exact hl,?_,?_,fun i hi=>?_⟩
  ·intro hne
   have hpos:0 < len:=by
    rcases Nat.eq_zero_or_pos len with h0 | h0
    ·subst h0; exact absurd rfl hne
    ·exact h0
   obtain ⟨b,o,spot⟩:=a
   have hspot:spot=none:=by
    obtain ⟨_,_,hcell⟩:=World.cells?_some (hf 0 (by omega)).1
    have:=hcell 0 (by decide)
    simpa [Addr.add] using World.cell?_spot this
   subst hspot
   have Q0W:∀ i,i < len→∀ j,j < 3→W.cell? ⟨b,o+(i * 3+j),none⟩=(ckC ((List.range len).map f))[i * 3+j]?:=by
    intro i hi j hj
    obtain ⟨_,_,hcell⟩:=World.cells?_some (hf i (by omega)).1
    have e:=hcell j hj
    rw [add_add,Q7s] at e
    rw [e]
    have hq:=Q7y ((List.range len).map f) i (by simpa using hi) j hj
    rw [hq]
    simp
   have hlen:(ckC ((List.range len).map f)).length=len * 3:=by
    rw [Qfw,hll]
   refine ⟨b,o,rfl,?_,fun j u hu=>?_⟩
   ·have e:=Q0W 0 hpos 0 (by omega)
    rw [List.getElem?_eq_getElem (by omega)] at e
    exact QbX e
   ·have hj:j < len * 3:=by
     rw [←hlen]
     exact (List.getElem?_eq_some_iff.1 hu).1
    have e:=Q0W (j / 3) (by omega) (j % 3) (by omega)
    rw [show j / 3 * 3+j % 3=j by omega,hu] at e
    exact e
  ·rw [hll]
   simp only [Rows.uptoBulk]
   have:=QcK D f len fun i hi=>(hf i (by omega)).2.1
   omega
  ·have hi':i < len:=by simpa using hi
   simp only [List.getElem_map,List.getElem_range]
   exact (hf i (by omega)).2.2
end
end Go.Proofs.YtdhobdmhnocbgabGreatDoor
