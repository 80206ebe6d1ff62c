import Derived.Test.YtdhobdmhnocbgabGreatDoorSWaD
import Derived.Test.YtdhobdmhnocbgabGreatDoorSTxE
namespace Go.Proofs.YtdhobdmhnocbgabGreatDoor
open Go.RowKit Zr
structure Kp (w:World) (a1:Option Addr) (xs1:List Value) (A:List ST) (ao:Option Addr) (xo:List Value):Prop where
 row:RowAt w w.heap.size a1 xs1
 drow:DRow w A xs1
 pre:xs1≠[]→∀ g o,a1=some ⟨g,o,none⟩→ao=some ⟨g,0,none⟩→o=0∧∃ ys,xo=xs1++ys
theorem Qby {w:World} {N:Nat} {e:TypeId} {size:Nat} {a:Option Addr} {n c g:Nat} {xs:List Value} (h:w.ownsRow N e size (.slice a n c) n xs) (hg:(Value.slice a n c).ownBlock=some g):a=some ⟨g,0,none⟩:=by
 rcases h.2 with ⟨h0,_⟩ | ⟨g',cap,cur,h0,_⟩
 ·cases h0; cases hg
 ·cases h0; cases hg; rfl
theorem Kp.start {w:World} {N:Nat} {a:Option Addr} {c:Nat} {A:List ST} {xs:List Value} (h:Ds w N a c A xs):Kp w a xs A a xs :=
 ⟨Q0u h.1,h.2,fun _ g o h1 h2=>by rw [h1] at h2; cases h2; exact ⟨rfl,[],by simp⟩⟩
theorem Kp.below {w w':World} {a1:Option Addr} {xs1:List Value} {A:List ST} {ao:Option Addr} {xo:List Value} (h:Kp w a1 xs1 A ao xo) (hb:Below w.heap.size w w'):Kp w' a1 xs1 A ao xo :=
 ⟨(h.row.below hb).mono hb.size,h.drow.frame (DFrame.of_below (N:=0) hb),h.pre⟩
theorem Kp.with {w w':World} {N:Nat} {a1:Option Addr} {xs1:List Value} {A:List ST} {ao:Option Addr} {co:Nat} {L R:List ST} {xo ys:List Value} {a':Option Addr} {c':Nat} (h:Kp w a1 xs1 A ao xo) (hD:Ds w N ao co L xo) (hF:DFrame N w w')
  (hat:(Value.slice a' R.length c').ownBlock=(Value.slice ao L.length co).ownBlock∨∃ g,(Value.slice a' R.length c').ownBlock=some g∧w.heap.size≤g) (hoth:∀ k,k < w.heap.size→some k≠(Value.slice ao L.length co).ownBlock→w'.heap[k]? = w.heap[k]?) (hkept:∀ g,(Value.slice ao L.length co).ownBlock=some g→∀ j u,xo[j]? = some u→w'.cell? ⟨g,j,none⟩=some u):Kp w' a1 xs1 A a' (xo++ys):=by
 refine ⟨fun hx=>?_,h.drow.frame hF,fun hx g o h1 h2=>?_⟩
 ·obtain ⟨g,o,e1,e2,e3⟩:=h.row hx
  refine ⟨g,o,e1,Nat.lt_of_lt_of_le e2 hF.size,fun j u hu=>?_⟩
  by_cases c:(Value.slice ao L.length co).ownBlock=some g
  ·obtain ⟨rfl,zs,hz⟩:=h.pre hx g o e1 (Qby hD.1 c)
   rw [Nat.zero_add]
   refine hkept g c j u ?_
   rw [hz,List.getElem?_append_left (List.getElem?_eq_some_iff.1 hu).1]
   exact hu
  ·have hb:=hoth g e2 (fun e=>c e.symm)
   have e4:=e3 j u hu
   simp only [World.cell?,hb] at e4 ⊢
   exact e4
 ·obtain ⟨g0,o0,e1,e2,e3⟩:=h.row hx
  rw [h1] at e1
  cases e1
  have q2:(Value.slice a' R.length c').ownBlock=some g:=by rw [h2]; rfl
  rcases hat with q | ⟨g',q,hg'⟩
  ·obtain ⟨r1,zs,hz⟩:=h.pre hx g o h1 (Qby hD.1 (q.symm.trans q2))
   exact ⟨r1,zs++ys,by rw [hz,List.append_assoc]⟩
  ·rw [q2] at q
   cases q
   omega
theorem Q7Z:∀ {L:List ST},(∀ s,s∈L→s.l≠[])→L.length≤tot L
 | [],_=>Nat.zero_le _
 | s :: L,h=>by
  have e:tot (s :: L)=s.l.length+tot L:=by unfold tot; rw [List.flatMap_cons,List.length_append]
  have h1:=List.length_pos_iff.2 (h s (by simp))
  have h2:=Q7Z (L:=L) fun x hx=>h x (by simp [hx])
  rw [e,List.length_cons]
  omega
theorem Q8h (z:List RI):∀ (sv:List RI) (S:List ST),(Q3v z S sv).length≤S.length+2 * sv.length
 | [],S=>by show S.length≤_; omega
 | x :: sv,S=>by
  have h1:=Q8h z sv (Q0c z (Q0c z S 2 (Q0q x.data) 1) 2 (Q0q x.data) 28)
  have h2:=Q24 z (Q0c z S 2 (Q0q x.data) 1) 2 (Q0q x.data) 28
  have h3:=Q24 z S 2 (Q0q x.data) 1
  show (Q3v z (Q0c z (Q0c z S 2 (Q0q x.data) 1) 2 (Q0q x.data) 28) sv).length≤_
  rw [List.length_cons]
  omega
theorem Qbl (z:List RI):∀ (A:List ST) (S:List ST),(Q3i z S A).length≤S.length+2 * tot A
 | [],S=>by show S.length≤_; omega
 | s :: A,S=>by
  have e:tot (s :: A)=s.l.length+tot A:=by unfold tot; rw [List.flatMap_cons,List.length_append]
  rw [e]
  show (Q3i z (if s.kind=33 then Q3v z S s.l else S) A).length≤_
  have h1:=Qbl z A (if s.kind=33 then Q3v z S s.l else S)
  have h2:(if s.kind=33 then Q3v z S s.l else S).length≤S.length+2 * s.l.length:=by
   split
   ·exact Q8h z s.l S
   ·omega
  omega
theorem Qez (z:List RI) (S:List ST) (A:List ST) (j:Nat) (h:j < A.length):Q3i z S (A.take (j+1))=if A[j].kind=33 then Q3v z (Q3i z S (A.take j)) A[j].l else Q3i z S (A.take j):=by
 unfold Q3i
 rw [List.take_succ_eq_append_getElem h,List.foldl_append]
 rfl
theorem QeA (z:List RI) (S:List ST) (sv:List RI) (k:Nat) (h:k < sv.length):Q3v z S (sv.take (k+1))=Q0c z (Q0c z (Q3v z S (sv.take k)) 2 (Q0q sv[k].data) 1) 2 (Q0q sv[k].data) 28:=by
 unfold Q3v
 rw [List.take_succ_eq_append_getElem h,List.foldl_append]
 rfl
theorem Qaz (A:List ST) (j:Nat):tot (A.take j)≤tot A:=by
 conv=>rhs; rw [←List.take_append_drop j A,Q83]
 omega
def Q88 (w:World) (told:Nat) (R:List ST) (e:Ending) (w':World):Prop:=∃ a c xs,e=.returned (.tuple #[.int .i64 (told:Nat),.slice a R.length c])∧Ds w' w.heap.size a c R xs∧DFrame w.heap.size w w'
set_option maxRecDepth 100000 in
set_option maxHeartbeats 8000000 in
theorem QjB (z:List RI) (n:ByteArray) (t:Int) (az:Option Addr) (cz:Nat) (w:World) (hz:RecRow w az z) (hcz:z.length≤cz) (hl:z.length≤8388608) (ht:∀ i (h:i < z.length),Tl z[i].name 0∧z[i].name.size≤255)
  (hsv:∀ x,x∈z→x.ty=33→6≤x.data.size∧x.data.size≤65535) (hdoc:Q5Y z n=true→Q2m z n t=Q3i z (Q1z z n t) (Q0w z [] n t)) :
  Calls Tryz.prog 70 #[.slice az z.length cz,.string n,.int .i64 t] w fun e w'=>Q88 w (Q3B z n) (Q2m z n t) e w':=by
 have KT:=Qa (QkS z n az cz w.heap.size w hz.row (by omega) ht)
 have HZ:=Qa hz
 cases hh:Q5Y z n with
 | false =>
  have h1:Q3B z n=3:=by unfold Q3B; rw [hh]; rfl
  have h2:Q2m z n t=Q0c z [] 1 Qm 6:=by unfold Q2m; rw [hh]; rfl
  have kw:=Q6n w.heap.size none 0 [] [] 1 z az cz Qm 6 w (Ds.nil _ _) (Nat.le_refl _) hz (by omega) (by simp)
  rw [←h2] at kw
  rw [h1]
  rw [hh] at KT
  have KW:=Qa kw
  unfold Qm at KW
  generalize Q2m z n t=R at *
  clear h1 h2 kw hh hz ht hsv hdoc
  go_enter Tryz.func70,Tryz.ntmps70
  go_wp2_with fail
  refine (Q6 KT).mono ?_
  rintro e w1 ⟨rfl,rfl⟩
  go_wp2_with fail
  refine (Q6 KW).mono ?_
  rintro e w2 ⟨a2,c2,ys,rfl,hD2,hF2,_⟩
  have HO2:Hid (Q88 w1 3 R (.returned (.tuple #[.int .i64 ((3:Nat):Int),.slice a2 R.length c2])) w2):=⟨a2,c2,_,rfl,hD2,hF2⟩
  clear hD2 hF2
  go_wp2_with fail
  go_ret2
  exact Q6 HO2
 | true =>
  have h1:Q3B z n=0:=by unfold Q3B; rw [hh]; rfl
  have h2:=hdoc hh
  rw [h1,h2]
  rw [hh] at KT
  have KA:=Qa (QjN z n t az cz w hz hcz (by omega))
  have htA:=Qfi z n t
  have hlA:(Q0w z [] n t).length≤2 * z.length:=by
   have h9:=(KindZ.answ z n t)
   have h8:=Qay z n t
   have h7:(Q0w z [] n t).length≤tot (Q0w z [] n t):=Q7Z fun s hs=>by obtain ⟨_,_,q⟩:=h9 s hs; exact q
   omega
  have hsub:∀ s,s∈Q0w z [] n t→s.kind=33→∀ x,x∈s.l→6≤x.data.size∧x.data.size≤65535:=fun s hs hk x hx=>by
   obtain ⟨m,q,_⟩:=KindZ.answ z n t s hs
   rw [q,hk] at hx
   obtain ⟨q1,_,q3⟩:=QiP hx
   exact hsv x q1 q3
  have htot:=Qay z n t
  have hmain:Q1z z n t=if Q1K (Q0w z [] n t) t then Q0w z [] n t else Q0c z (Q0w z [] n t) 1 Qm 6:=rfl
  have hml:(Q1z z n t).length≤2 * z.length+1:=by
   rw [hmain]
   split
   ·omega
   ·have:=Q24 z (Q0w z [] n t) 1 Qm 6
    omega
  obtain ⟨A,hA⟩:∃ A,Q0w z [] n t=A:=⟨_,rfl⟩
  obtain ⟨M,hM⟩:∃ M,Q1z z n t=M:=⟨_,rfl⟩
  rw [hA] at KA htA hlA hsub htot hmain
  rw [hM] at hmain hml
  rw [hA,hM]
  have HTA:=Qa htA
  have HSub:=Qa hsub
  have HMain:=Qa hmain
  clear h1 h2 hh hz ht hsv hdoc htA hsub hmain hA hM
  go_enter Tryz.func70,Tryz.ntmps70
  go_wp2_with fail
  refine (Q6 KT).mono ?_
  rintro e w1 ⟨rfl,rfl⟩
  go_wp2_with fail
  refine (Q6 KA).mono ?_
  rintro e w2 ⟨a1,c1,xs1,rfl,hD2,hF2⟩
  have KY:=Qa (QkU A t a1 c1 w2.heap.size xs1 w2 (Q0u hD2.1) hD2.2 (Nat.le_refl _) (Q6 HTA) (by omega))
  have hs2:=hF2.size
  have HK2:=Qa (Kp.start hD2)
  have HZ2:=Qa ((Q6 HZ).dframe hF2)
  have HD2:=Qa hD2
  have HF2:=Qa hF2
  clear hD2 hF2 KT KA
  go_wp2_with fail
  refine (Q6 KY).mono ?_
  rintro e w3 ⟨rfl,rfl⟩
  obtain ⟨ok,hok⟩:∃ ok,Q1K A t=ok:=⟨_,rfl⟩
  rw [hok] at HMain ⊢
  clear KY hok
  go_upto_if 30 with fail
  go_cut [11] (fun v w'=>∃ (ao:Option Addr) (co m:Nat) (xo:List Value),v=.slice ao m co∧Hid (M.length=m)∧Hid (Ds w' w1.heap.size ao co M xo)∧Hid (Kp w' a1 xs1 A ao xo)∧Hid (DFrame w1.heap.size w1 w'))
  case first =>
   cases ok with
   | true =>
    have hm:=Q6 HMain
    rw [if_pos rfl] at hm
    subst hm
    go_wp2_with fail
    go_meet
    exact ⟨a1,c1,_,xs1,rfl,Qa rfl,HD2,HK2,HF2⟩
   | false =>
    have hm:=Q6 HMain
    rw [if_neg (by simp)] at hm
    have kw:=Q6n w1.heap.size a1 c1 A xs1 1 z az cz Qm 6 w3 (Q6 HD2) hs2 (Q6 HZ2) (by omega) (by omega)
    rw [←hm] at kw
    have KW:=Qa kw
    unfold Qm at KW
    clear kw hm
    go_wp2_with fail
    refine (Q6 KW).mono ?_
    rintro e w4 ⟨a4,c4,ys,rfl,hD4,hF4,hat,hoth,hkept⟩
    have HK4:=Qa ((Q6 HK2).with (ys:=ys) (Q6 HD2) hF4 hat hoth hkept)
    have HD4:=Qa hD4
    have HF4:=Qa ((Q6 HF2).trans hF4)
    clear hD4 hF4 hat hoth hkept
    go_wp2_with fail
    go_meet
    exact ⟨a4,c4,_,_,rfl,Qa rfl,HD4,HK4,HF4⟩
  case rest =>
   obtain ⟨ao,co,m,xo,rfl,HLn,HD,HK,HF⟩:=hcut
   clear HD2 HK2 HF2 HZ2 HMain hs2
   have HHl:=Qa (fun j=>(Qbl z (A.take j) M))
   have HTt:=Qa (fun j=>Qaz A j)
   have HHt:=Qa (fun j (h:j < A.length)=>Qez z M A j h)
   go_wp2_with fail
   go_loopg [11,12] (A.length+1) (fun g vo vi w'=>∃ (j:Nat) (ao:Option Addr) (co m:Nat) (xo:List Value),vi=.int .i64 j∧j≤A.length∧g=A.length+1 - j∧vo=.slice ao m co∧Hid ((Q3i z M (A.take j)).length=m)∧Hid (Ds w' w1.heap.size ao co (Q3i z M (A.take j)) xo)∧Hid (Kp w' a1 xs1 A ao xo)∧Hid (DFrame w1.heap.size w1 w'))
   case atStart=>exact ⟨0,ao,co,m,xo,rfl,Nat.zero_le _,rfl,rfl,HLn,HD,HK,HF⟩
   case round =>
    clear HLn HD HK HF
    obtain ⟨j,ao,co,m,xo,rfl,hj,rfl,rfl,HLn,HD,HK,HF⟩:=hrel
    by_cases cj:j < A.length
    ·obtain ⟨gs,os,al,cl,hga,hg,x0,x1,hrec,hcl⟩:=Q9z (Q6 HK).row (Q6 HK).drow j cj
     obtain ⟨x,X,hx,hxt⟩:=Q6 HTA j cj
     have hht:=Q6 HHt j cj
     have hsub:=Q6 HSub A[j] (List.getElem_mem cj)
     have hbound:(Q3i z M (A.take j)).length+2 * A[j].l.length≤100000000:=by
      have q1:=Q6 HHl j
      have q2:=Q6 HTt j
      have q3:A[j].l.length≤tot A:=by
       have:=Q6 HTt (j+1)
       rw [List.take_succ_eq_append_getElem cj,Q83] at this
       have e:tot [A[j]]=A[j].l.length:=by simp [tot]
       omega
      omega
     obtain ⟨Lj,hLj⟩:∃ Lj,Q3i z M (A.take j)=Lj:=⟨_,rfl⟩
     rw [hLj] at HLn HD hbound hht
     have hlp:0 < A[j].l.length:=by rw [hx]; simp
     obtain ⟨b,p,hab,hb,_,y1,_⟩:=Q2R hrec.row 0 hlp
     have h0:A[j].l[0]=x:=by simp only [hx,List.getElem_cons_zero]
     rw [h0,hxt] at y1
     subst hga
     subst hab
     simp only [Nat.zero_mul,Nat.add_zero] at y1
     have HHt2:=Qa hht
     have HSub2:=Qa hsub
     obtain ⟨sv,hsv⟩:∃ sv,A[j].l=sv:=⟨_,rfl⟩
     obtain ⟨kd,hkd⟩:∃ kd,A[j].kind=kd:=⟨_,rfl⟩
     have HSv:=Qa hsv
     rw [hsv] at x1 hlp hbound HHt2 HSub2
     rw [hkd] at y1 HHt2 HSub2
     clear hht hsub hx hxt h0 hrec hsv hkd x0 hLj
     by_cases ck:kd=33
     ·subst ck
      rw [if_pos rfl] at HHt2
      have HHt3:=Qa (fun k (h:k < sv.length)=>QeA z Lj sv k h)
      have HHl3:=Qa (fun k=>Q8h z (sv.take k) Lj)
      go_wp2_with fail
      clear x1 y1 hg hb
      go_loopg [11,13] (sv.length+1) (fun g vo vi w'=>∃ (k:Nat) (ao:Option Addr) (co m:Nat) (xo:List Value),vi=.int .i64 k∧k≤sv.length∧g=sv.length+1 - k∧vo=.slice ao m co∧Hid ((Q3v z Lj (sv.take k)).length=m)∧Hid (Ds w' w1.heap.size ao co (Q3v z Lj (sv.take k)) xo)∧Hid (Kp w' (some ⟨gs,os,none⟩) xs1 A ao xo)∧Hid (DFrame w1.heap.size w1 w'))
      case atStart=>exact ⟨0,ao,co,m,xo,rfl,Nat.zero_le _,rfl,rfl,HLn,HD,HK,HF⟩
      case round =>
       clear HLn HD HK HF
       obtain ⟨k,ao,co,m,xo,rfl,hk,rfl,rfl,HLn,HD,HK,HF⟩:=hrel
       obtain ⟨g1,o1,al1,cl1,hga1,hg1,_,x1,hrec1,_⟩:=Q9z (Q6 HK).row (Q6 HK).drow j cj
       cases hga1
       rw [Q6 HSv] at x1 hrec1
       by_cases ck:k < sv.length
       ·obtain ⟨b1,p1,hab1,hb1,_,_,_,_,y4⟩:=Q2R hrec1.row k ck
        subst hab1
        obtain ⟨hd6,hd7⟩:=Q6 HSub2 (by trivial) sv[k] (List.getElem_mem ck)
        have hht:=Q6 HHt3 k ck
        have hll:=Q6 HHl3 k
        have hlk:(sv.take k).length=k:=by rw [List.length_take]; omega
        rw [Q6 HLn,hlk] at hll
        obtain ⟨d,hd⟩:∃ d,sv[k].data=d:=⟨_,rfl⟩
        rw [hd] at y4 hd6 hd7 hht
        have HDd:=Qa hd
        have htg:Q0q d=d.extract 6 d.size:=by unfold Q0q; rw [if_neg (by omega)]
        rw [htg] at hht
        have hs1:w1.heap.size≤wr.heap.size:=(Q6 HF).size
        obtain ⟨Lk,hLk⟩:∃ Lk,Q3v z Lj (sv.take k)=Lk:=⟨_,rfl⟩
        rw [hLk] at HLn HD hht
        have hLk2:Lk.length≤134217000:=by rw [Q6 HLn]; omega
        have kw:=Q6n w1.heap.size ao co Lk xo 2 z az cz (d.extract 6 d.size) 1 wr (Q6 HD) hs1 ((Q6 HZ).dframe (Q6 HF)) (by omega) (by omega)
        rw [Q6 HLn] at kw
        have KW:=Qa kw
        have hL2:=Q24 z Lk 2 (d.extract 6 d.size) 1
        obtain ⟨L2,hL2e⟩:∃ L2,Q0c z Lk 2 (d.extract 6 d.size) 1=L2:=⟨_,rfl⟩
        rw [hL2e] at KW hht hL2
        have HHt4:=Qa hht
        have h6:(6:Int)≤(d.size:Int):=by omega
        clear kw hht hd htg hLk hL2e hrec1
        go_upto_region 17 with (go_at_call 105; refine (Q6 KW).mono ?_; rintro e w5 ⟨a5,c5,ys5,rfl,hD5,hF5,hat5,hoth5,hkept5⟩)
        have hat5':(Value.slice a5 L2.length c5).ownBlock=(Value.slice ao Lk.length co).ownBlock∨∃ g,(Value.slice a5 L2.length c5).ownBlock=some g∧wr.heap.size≤g:=hat5
        have HK5:=Qa ((Q6 HK).with (ys:=ys5) (Q6 HD) hF5 hat5' hoth5 hkept5)
        have HD5:=Qa hD5
        have HF5:=Qa ((Q6 HF).trans hF5)
        have hs5:w1.heap.size≤w5.heap.size:=Nat.le_trans hs1 hF5.size
        clear x1 y4 hb1 hg1 hat5 hat5' hoth5 hkept5 hD5 hF5 KW HK HD HF
        obtain ⟨g1,o1,al1,cl1,hga1,hg1,_,x1,hrec1,_⟩:=Q9z (Q6 HK5).row (Q6 HK5).drow j cj
        cases hga1
        rw [Q6 HSv] at x1 hrec1
        obtain ⟨b1,p1,hab1,hb1,_,_,_,_,y4⟩:=Q2R hrec1.row k ck
        subst hab1
        obtain ⟨d',hd'⟩:∃ d',sv[k].data=d':=⟨_,rfl⟩
        have hdd:d'=d:=by rw [←hd',Q6 HDd]
        rw [hd',hdd] at y4
        clear hd' hdd
        have kw:=Q6n w1.heap.size a5 c5 L2 (xo++ys5) 2 z az cz (d.extract 6 d.size) 28 w5 (Q6 HD5) hs5 ((Q6 HZ).dframe (Q6 HF5)) (by omega) (by omega)
        rw [←Q6 HHt4] at kw
        have KW:=Qa kw
        clear kw hrec1
        go_wp2_with fail
        refine (Q6 KW).mono ?_
        rintro e w6 ⟨a6,c6,ys6,rfl,hD6,hF6,hat6,hoth6,hkept6⟩
        have HK6:=Qa ((Q6 HK5).with (ys:=ys6) (Q6 HD5) hF6 hat6 hoth6 hkept6)
        have HD6:=Qa hD6
        have HF6:=Qa ((Q6 HF5).trans hF6)
        clear x1 y4 hb1 hg1 hat6 hoth6 hkept6 hD6 hF6 KW HK5 HD5 HF5
        go_wp2_with fail
        go_roundg (sv.length+1 - (k+1))
        case measure=>omega
        case rel=>exact ⟨k+1,a6,c6,_,_,by go_num,by omega,rfl,rfl,Qa rfl,HD6,HK6,HF6⟩
       ·have ek:k=sv.length:=by omega
        subst ek
        have hln:=Q6 HLn
        have hd9:=Q6 HD
        rw [List.take_length,←Q6 HHt2] at hln hd9
        have HLn9:=Qa hln
        have HD9:=Qa hd9
        clear hln hd9 hrec1
        go_wp2_with fail
        go_roundg (A.length+1 - (j+1))
        case measure=>omega
        case rel=>exact ⟨j+1,ao,co,m,xo,by go_num,by omega,rfl,rfl,HLn9,HD9,HK,HF⟩
     ·have f1:(kd == 33)=false:=by rw [beq_eq_false_iff_ne]; exact ck
      rw [if_neg ck] at HHt2
      have HLn9:Hid ((Q3i z M (A.take (j+1))).length=m):=Qa (by rw [Q6 HHt2]; exact Q6 HLn)
      have HD9:Hid (Ds wr w1.heap.size ao co (Q3i z M (A.take (j+1))) xo):=Qa (by rw [Q6 HHt2]; exact Q6 HD)
      clear ck
      go_wp2_with fail
      go_roundg (A.length+1 - (j+1))
      case measure=>omega
      case rel=>exact ⟨j+1,ao,co,m,xo,by go_num,by omega,rfl,rfl,HLn9,HD9,HK,HF⟩
    ·have ej:j=A.length:=by omega
     subst ej
     have hln:=Q6 HLn
     have hd9:=Q6 HD
     rw [List.take_length] at hln hd9
     have HO9:Hid (Q88 w1 0 (Q3i z M A) (.returned (.tuple #[.int .i64 ((0:Nat):Int),.slice ao m co])) wr):=Qa ⟨ao,co,xo,by rw [hln],hd9,Q6 HF⟩
     clear hln hd9
     go_wp2_with fail
     go_ret2
     exact Q6 HO9
theorem Qg4 {w:World} {al:Option Addr} {l:List RI} {cl:Nat} (h:RecRow w al l) (hne:l≠[]):Src Tryz.prog 5 27 (.slice al l.length cl) l.length (rcI l) w:=by
 obtain ⟨b,o,hab,hb,hc⟩:=h.row (fun e=>hne (by
  have:=Qaa l
  rw [e] at this
  simp at this
  exact List.length_eq_zero_iff.1 (by omega)))
 subst hab
 exact Src.ofSlice _ Tryz.underlying27 ⟨b,o,none⟩ l.length cl _ (by rw [Qaa]) (fun j u hu=>by
  have e:=hc j u hu
  rw [Addr.add_lit]
  exact e) (Qdt l)
theorem Qh5 (L:List ST) (k i:Nat) (h:i < L.length):(L[i].part=k→Q0k (L.take (i+1)) k=Q0k (L.take i) k++L[i].l)∧(L[i].part≠k→Q0k (L.take (i+1)) k=Q0k (L.take i) k):=by
 rw [QbL L i h k,Q6B]
 exact ⟨fun e=>by rw [if_pos e],fun e=>by rw [if_neg e,List.append_nil]⟩
theorem Qdj (L:List ST) (k:Nat):(Q0k L k).length≤tot L:=by
 unfold Q0k tot
 induction L with
 | nil=>simp
 | cons s L ih =>
  rw [List.flatMap_cons,List.length_append]
  by_cases c:s.part=k
  ·rw [List.filter_cons_of_pos (p:=fun s:ST=>decide (s.part=k)) (decide_eq_true c),List.flatMap_cons,List.length_append]
   omega
  ·rw [List.filter_cons_of_neg (p:=fun s:ST=>decide (s.part=k)) (by simpa using c)]
   omega
set_option maxRecDepth 100000 in
set_option maxHeartbeats 2000000 in
theorem QlI (L:List ST) (n k:Nat) (a:Option Addr) (c M:Nat) (xs:List Value) (w:World) (hr:RowAt w M a xs) (hd:DRow w L xs) (hM:M≤w.heap.size) (hne:∀ s,s∈L→s.l≠[]) (hn:n≤L.length) (hl:tot L≤100000000) :
  Calls Tryz.prog 108 #[.slice a L.length c,.int .i64 (n:Nat),.int .i64 (k:Nat)] w fun e w'=>Q2u w (Q0k (L.take n) k) e w':=by
 obtain ⟨i0,hi,hi0,hi1,hi2⟩:=info_parts Tryz.info61
 have Hi:=Qa hi
 have Hz0:=Qa hi0
 have Hz1:=Qa hi1
 have Hz2:=Qa hi2
 have HR:=Qa hr
 have HD:=Qa hd
 have HNe:=Qa hne
 have HSt:=Qa (Qh5 L k)
 have HTt:=Qa (fun i=>Nat.le_trans (Qdj (L.take i) k) (Qaz L i))
 have hlen:L.length≤100000000:=Nat.le_trans (Q7Z hne) hl
 clear hi hi0 hi1 hi2 hr hd hne
 obtain ⟨N0,hN0⟩:∃ N0,w.heap.size=N0:=⟨_,rfl⟩
 have HOut:Hid (∀ e w',(∃ (a:Option Addr) (c:Nat),e=.returned (.slice a (Q0k (L.take n) k).length c)∧w'.ownsRow N0 61 5 (.slice a (Q0k (L.take n) k).length c) (Q0k (L.take n) k).length (rcI (Q0k (L.take n) k))∧Below N0 w w')→Q2u w (Q0k (L.take n) k) e w'):=fun e w' h=>by unfold Q2u; rw [hN0]; exact h
 rw [hN0] at hM
 go_enter Tryz.func108,Tryz.ntmps108
 go_wp2_with fail
 go_loopg [7,8] (n+1) (fun g vb vi w'=>∃ (i m:Nat) (ab:Option Addr) (cb:Nat),vi=.int .i64 i∧i≤n∧g=n+1 - i∧vb=.slice ab m cb∧Hid ((Q0k (L.take i) k).length=m)∧Hid (w'.ownsRow N0 61 5 (.slice ab m cb) m (rcI (Q0k (L.take i) k)))∧Hid (Below N0 w w')∧N0≤w'.heap.size)
 case atStart=>exact ⟨0,0,none,0,rfl,Nat.zero_le _,rfl,rfl,Qa rfl,Qa (World.ownsRow_nil _ _ _ _),Qa (Below.refl _ _),by omega⟩
 case round =>
  obtain ⟨i,m,ab,cb,rfl,hin,rfl,rfl,HLn,HO,HB,hNw⟩:=hrel
  by_cases ci:i < n
  ·have cL:i < L.length:=by omega
   obtain ⟨g,o,al,cl,hga,hg,x0,x1,hrec,hcl⟩:=Q9z ((Q6 HR).below ((Q6 HB).mono hM)) ((Q6 HD).frame (DFrame.of_below (N:=0) (show Below w.heap.size w wr by rw [hN0]; exact Q6 HB))) i cL
   obtain ⟨t1,t2⟩:=Q6 HSt i cL
   have hm1:=Q6 HTt (i+1)
   have hm0:=Q6 HTt i
   rw [Q6 HLn] at hm0
   have hnl:=Q6 HNe L[i] (List.getElem_mem cL)
   subst hga
   have hgw:g < wr.heap.size:=by omega
   by_cases cp:L[i].part=k
   ·have hT:=t1 cp
    rw [hT,List.length_append,Q6 HLn] at hm1
    have hsrc:=Qg4 (cl:=cl) hrec hnl
    rw [cp] at x0
    obtain ⟨Q,hQ⟩:∃ Q,L[i].l=Q:=⟨_,rfl⟩
    rw [hQ] at x1 hT hsrc hm1
    have HT:=Qa hT
    have HSrc:=Qa hsrc
    clear t1 t2 hT hsrc hrec hnl hcl hQ cp
    obtain ⟨qn,hqn⟩:∃ qn,Q.length=qn:=⟨_,rfl⟩
    rw [hqn] at x1 HSrc hm1
    have HQn:=Qa hqn
    clear hqn
    go_wp2_with (at_builtin; refine Qe _ rfl _ _ 27 27 rfl N0 61 i0 (.agg #[.string ⟨#[]⟩,.int .i64 0,.int .i64 0,.int .i64 0,.string ⟨#[]⟩]) 5 56 Tryz.underlying27 (Q6 Hi) (Q6 Hz0) (Q6 Hz1) (Q6 Hz2) rfl (.slice ab m cb) m (rcI (Q0k (L.take i) k)) (by rfl) (Q6 HO) (.slice al qn cl) qn (rcI Q) (by rfl) (Q6 HSrc) (by unfold maxLen; omega) (by omega) hNw ?_; intro a1 e1 w2 hown2 hgrow2 hat2)
    go_roundg (n+1 - (i+1))
    case measure=>omega
    case rel =>
     refine ⟨i+1,m+qn,a1,e1,by go_num,by omega,rfl,rfl,Qa (by rw [Q6 HT,List.length_append,Q6 HLn,Q6 HQn]),?_,Qa ((Q6 HB).trans (Qn (Q6 HO) hgrow2 hNw)),?_⟩
     ·rw [Q6 HT,Q6D]; exact Qa hown2
     ·have:=hgrow2.size; omega
   ·have hT:=t2 cp
    have f1:(((L[i].part:Nat):Int) == (k:Int))=false:=by rw [beq_eq_false_iff_ne]; omega
    have HT:=Qa hT
    obtain ⟨pp,hpp⟩:∃ pp:Nat,L[i].part=pp:=⟨_,rfl⟩
    rw [hpp] at x0 f1
    clear t1 t2 hT hrec hnl hcl cp hpp
    go_wp2_with fail
    go_roundg (n+1 - (i+1))
    case measure=>omega
    case rel=>exact ⟨i+1,m,ab,cb,by go_num,by omega,rfl,rfl,Qa (by rw [Q6 HT]; exact Q6 HLn),Qa (by rw [Q6 HT]; exact Q6 HO),HB,hNw⟩
  ·have ei:i=n:=by omega
   subst ei
   have hln:=Q6 HLn
   subst hln
   go_wp2_with fail
   go_ret
   exact Q6 HOut _ _ ⟨ab,cb,rfl,Q6 HO,Q6 HB⟩
theorem RecRow.set {w:World} {a:Option Addr} {l:List RI} (h:RecRow w a l) {X:Nat} {cs:Array Value} {t:TypeId} {fr:Nat × Nat} (hX:w.heap[X]? = some (.cells cs t fr)) (ht:t≠61) (j:Nat) (v:Value):RecRow (w.setCell ⟨X,j,none⟩ v) a l:=by
 intro hl
 obtain ⟨g,o,cs',h1,h2,h3⟩:=h hl
 refine ⟨g,o,cs',h1,(Qf (fun e=>?_) _ _).trans h2,h3⟩
 subst e
 rw [hX] at h2
 cases h2
 exact ht rfl
theorem RecRow.lt {w:World} {a:Option Addr} {l:List RI} (h:RecRow w a l):∀ g o,a=some ⟨g,o,none⟩→l≠[]→g < w.heap.size:=fun g o h1 h2=>by
 obtain ⟨g',o',cs',e1,e2,e3⟩:=h h2
 rw [h1] at e1
 cases e1
 exact Qb e2
theorem RecRow.keep {w w':World} {a:Option Addr} {l:List RI} {F:Nat} (h:RecRow w a l) (hlt:∀ g o,a=some ⟨g,o,none⟩→l≠[]→g < F) (hb:Below F w w'):RecRow w' a l:=fun hl=>by
 obtain ⟨g,o,cs',h1,h2,h3⟩:=h hl
 exact ⟨g,o,cs',h1,(hb.block g (hlt g o h1 hl)).trans h2,h3⟩
theorem QlG (A B:Nat) (h:B < 512):(1024 * A+B) ||| 512=1024 * A+B+512∧(1024 * A+(512+B)) ||| 512=1024 * A+(512+B):=by
 have e1:512+B=512 ||| B:=by
  have:=Nat.two_pow_add_eq_or_of_lt (i:=9) (b:=B) h 1
  simpa using this
 have e2:∀ C,C < 1024→1024 * A+C=1024 * A ||| C:=fun C hC=>by
  have:=Nat.two_pow_add_eq_or_of_lt (i:=10) (b:=C) hC A
  simpa using this
 constructor
 ·rw [e2 B (by omega),Nat.or_assoc,Nat.or_comm B 512,←e1,←e2 (512+B) (by omega),←e2 B (by omega)]
  omega
 ·rw [e2 (512+B) (by omega),e1,Nat.or_assoc,Nat.or_comm (512 ||| B) 512,←Nat.or_assoc 512 512 B,Nat.or_self]
theorem QlF (f:Nat):(f / 512 % 2=0→f ||| 512=f+512)∧(f / 512 % 2≠0→f ||| 512=f):=by
 have hl:=QlG (f / 1024) (f % 512) (by omega)
 constructor
 ·intro h
  have e:f=1024 * (f / 1024)+f % 512:=by omega
  rw [←e] at hl
  exact hl.1
 ·intro h
  have e:f=1024 * (f / 1024)+(512+f % 512):=by omega
  have h2:=hl.2
  rw [←e] at h2
  exact h2
theorem QgC (L:List ST) (c f j:Nat) (h:j < L.length) (hc:c≤j):Q0P L c f (j+1)=if L[j].part≠2 then Q0P L c f j ||| 512 else Q0P L c f j:=by
 rw [Q4Y L c f j h]
 by_cases q:L[j].part≠2
 ·rw [if_pos q,if_pos ⟨hc,q⟩]
 ·rw [if_neg q,if_neg fun e=>q e.2]
theorem Q8K (L:List ST) (c f:Nat):∀ j,j≤c→j≤L.length→Q0P L c f j=f
 | 0,_,_=>rfl
 | j+1,h1,h2=>by
  rw [Q4Y L c f j (by omega),if_neg (fun e=>by omega)]
  exact Q8K L c f j (by omega) (by omega)
theorem QfD (L:List ST) (c f:Nat) (hf:f < 65536):∀ j,j≤L.length→Q0P L c f j < 65536
 | 0,_=>hf
 | j+1,h=>by
  have ih:=QfD L c f hf j (by omega)
  rw [Q4Y L c f j (by omega)]
  split
  ·exact Nat.or_lt_two_pow (n:=16) ih (by decide)
  ·exact ih
def QhC (w:World) (x:Rep) (c:Nat) (e:Ending) (w':World):Prop:=e=.returned (.string (Q3m (Q0A x c).nat).1)∧Below w.heap.size w w'
set_option maxRecDepth 100000 in
set_option maxHeartbeats 8000000 in
theorem Qmd (x:Rep) (c:Nat) (a:Option Addr) (cs:Nat) (xs:List Value) (aq:Option Addr) (cq:Nat) (ax:Option Addr) (cx:Nat) (w:World)
  (hr:RowAt w w.heap.size a xs) (hd:DRow w x.sets xs) (hne:∀ s,s∈x.sets→s.l≠[]) (hl:tot x.sets≤100000000) (hsk:Q6W x.sets)
  (hq:RowAt w w.heap.size aq (qcI x.q)) (hqc:x.q.length≤cq) (hqs:Q4m x.q) (hx:RecRow w ax (Q0o x)) (hxc:(Q0o x).length≤cx) (hxn:x.opt=false→ax=none∧cx=0)
  (hrk:Q9j x) (hcl:c≤x.sets.length) (hfc:Fit x c) (hno:∀ n,c < n→n≤x.sets.length→¬ Fit x n) :
  Calls Tryz.prog 73 #[.agg #[.int .i64 (x.id:Nat),.int .i64 ((x.fl ||| x.told % 16:Nat):Int),.slice aq x.q.length cq,.slice none 0 0,.slice none 0 0,.slice ax (Q0o x).length cx],.slice a x.sets.length cs,.int .i64 (x.lim:Nat)] w fun e w'=>QhC w x c e w':=by
 obtain ⟨i0,hi,hi0,hi1,hi2⟩:=info_parts Tryz.info61
 have Hi:=Qa hi
 have Hz0:=Qa hi0
 have Hz1:=Qa hi1
 have Hz2:=Qa hi2
 have hf0:x.fl ||| x.told % 16 < 65536:=Nat.or_lt_two_pow (n:=16) hrk.2.2.1 (by omega)
 have HFl:=Qa (fun n j h=>QfD x.sets n (x.fl ||| x.told % 16) hf0 j h)
 have HR:=Qa hr
 have HD:=Qa hd
 have HNe:=Qa hne
 have HSk:=Qa hsk
 have HQ:=Qa hq
 have HX:=Qa hx
 have HFc:=Qa hfc
 have HNo:=Qa hno
 have HQs:=Qa hqs
 have HXn:=Qa hxn
 have hsl:=Q7Z hne
 have hopl:(Q0o x).length≤1:=by unfold Q0o; split <;> simp
 clear hi hi0 hi1 hi2 hr hd hne hsk hq hx hfc hno hqs hxn
 obtain ⟨f0,hf0e⟩:∃ f0,x.fl ||| x.told % 16=f0:=⟨_,rfl⟩
 rw [hf0e] at hf0 HFl ⊢
 have HF0:=Qa hf0e
 clear hf0e
 obtain ⟨S,hS⟩:∃ S,x.sets=S:=⟨_,rfl⟩
 rw [hS] at HD HNe HSk hl hcl HNo HFl hsl ⊢
 have HS:=Qa hS
 clear hS
 have hP:=heap_alloc_new w (.cells #[.int .i64 (x.id:Nat),.int .i64 (f0:Nat),.slice aq x.q.length cq,.slice none 0 0,.slice none 0 0,.slice ax (Q0o x).length cx] 32)
 have hB:=(Below.refl w.heap.size w).alloc (Nat.le_refl _) (.cells #[.int .i64 (x.id:Nat),.int .i64 (f0:Nat),.slice aq x.q.length cq,.slice none 0 0,.slice none 0 0,.slice ax (Q0o x).length cx] 32)
 have HP:=Qa hP
 have HB:=Qa hB
 clear hP hB
 go_enter Tryz.func73,Tryz.ntmps73
 go_wp2_with fail
 generalize w.alloc (.cells #[.int .i64 (x.id:Nat),.int .i64 (f0:Nat),.slice aq x.q.length cq,.slice none 0 0,.slice none 0 0,.slice ax (Q0o x).length cx] 32)=w0 at *
 obtain ⟨P,hPs⟩:∃ P,w.heap.size=P:=⟨_,rfl⟩
 have HPs:=Qa hPs
 rw [hPs] at HP HB HR HQ ⊢
 clear hPs
 go_loopg [7] (S.length+2) (fun g vn w'=>∃ n:Nat,vn=.int .i64 n∧c≤n∧n≤S.length∧g=n+2∧Hid (w'.heap[P]? = some (.cells #[.int .i64 (x.id:Nat),.int .i64 (f0:Nat),.slice aq x.q.length cq,.slice none 0 0,.slice none 0 0,.slice ax (Q0o x).length cx] 32 (0,0)))∧Hid (Below P w w'))
 case atStart=>exact ⟨S.length,rfl,hcl,Nat.le_refl _,rfl,HP,HB⟩
 case round =>
  clear HP HB
  obtain ⟨n,rfl,hcn,hnS,rfl,HP,HB⟩:=hrel
  have hPl:=Qb (Q6 HP)
  obtain ⟨⟨m0,m1,m2,m3,m4,m5⟩,_⟩:=Qh (Q6 HP)
  have hn0:(0:Int)≤(n:Int):=by omega
  have hsz1:(wr.alloc (.cells #[.int .i64 (x.id:Nat),.int .i64 (f0:Nat),.slice aq x.q.length cq,.slice none 0 0,.slice none 0 0,.slice ax (Q0o x).length cx] 32)).heap.size=wr.heap.size+1:=by simp
  have hb1:=(Below.refl wr.heap.size wr).alloc (Nat.le_refl _) (.cells #[.int .i64 (x.id:Nat),.int .i64 (f0:Nat),.slice aq x.q.length cq,.slice none 0 0,.slice none 0 0,.slice ax (Q0o x).length cx] 32)
  have hX1:=heap_alloc_new wr (.cells #[.int .i64 (x.id:Nat),.int .i64 (f0:Nat),.slice aq x.q.length cq,.slice none 0 0,.slice none 0 0,.slice ax (Q0o x).length cx] 32)
  have hPw:P≤wr.heap.size:=Nat.le_of_lt hPl
  have hB1:=(Q6 HB).trans (hb1.mono hPw)
  have HP1:=Qa ((hb1.block P hPl).trans (Q6 HP))
  have HX1:=Qa hX1
  have HB1:=Qa hB1
  have hwP:w.heap.size=P:=Q6 HPs
  have HRd:=Qa (fun (W:World) (hW:Below P w W)=>(Q6 HR).below hW)
  have HDd:=Qa (fun (W:World) (hW:Below P w W)=>(Q6 HD).frame (DFrame.of_below (N:=0) (show Below w.heap.size w W by rw [hwP]; exact hW)))
  have KP:=Qa (fun (k:Nat) (W:World) (hW:Below P w W)=>QlI S n k a cs P xs W (Q6 HRd W hW) (Q6 HDd W hW) (Nat.le_trans (by omega:P≤w.heap.size) hW.size) (Q6 HNe) hnS hl)
  clear hb1 hX1 hB1 hwP
  go_wp2_with fail
  clear m0 m1 m2 m3 m4 m5
  generalize wr.alloc (.cells #[.int .i64 (x.id:Nat),.int .i64 (f0:Nat),.slice aq x.q.length cq,.slice none 0 0,.slice none 0 0,.slice ax (Q0o x).length cx] 32)=w1 at *
  obtain ⟨X,hX⟩:∃ X,wr.heap.size=X:=⟨_,rfl⟩
  rw [hX] at HX1 hsz1 hPw hPl ⊢
  clear hX HP HB
  refine (Q6 KP 0 _ (Q6 HB1)).mono ?_
  rintro e w2 ⟨a0,c0,rfl,ho0,hb2⟩
  obtain ⟨hr0,hc0⟩:=Q18 ho0
  have hX2:=(hb2.block X (Qb (Q6 HX1))).trans (Q6 HX1)
  have hP2:=(hb2.block P (Qb (Q6 HP1))).trans (Q6 HP1)
  have hB2:=(Q6 HB1).trans (hb2.mono (by omega))
  obtain ⟨Q0,hQ0⟩:∃ Q0,Q0k (S.take n) 0=Q0:=⟨_,rfl⟩
  rw [hQ0] at hr0 hc0 ⊢
  have HQ0:=Qa hQ0
  have hX3:=Qo hX2 3 (.slice a0 Q0.length c0)
  have hP3:=(Qf (w:=w2) (k:=P) (R:=X) (by omega) 3 (.slice a0 Q0.length c0)).trans hP2
  have hr3:=hr0.set hX2 (by decide) 3 (.slice a0 Q0.length c0)
  have hB3:=hB2.setCell (p:=⟨X,3,none⟩) (by show P≤X; omega) (.slice a0 Q0.length c0)
  have hs3:(w2.setCell ⟨X,3,none⟩ (.slice a0 Q0.length c0)).heap.size=w2.heap.size:=Q0l _ _ _
  have hs2:=hb2.size
  have HX3:=Qa hX3
  have HP3:=Qa hP3
  have HA3:=Qa hr3
  have HB3:=Qa hB3
  obtain ⟨⟨y0,y1,y2,y3,y4,y5⟩,z0,z1,z2,z3,z4,z5⟩:=Qh hX2
  have lX:=Qb hX2
  clear ho0 hb2 hr0 hX2 hP2 hB2 hX3 hP3 hr3 hB3 hQ0 HX1 HP1 HB1
  go_upto_region 6 with fail
  clear y0 y1 y2 y3 y4 y5 z0 z1 z2 z3 z4 z5 lX
  generalize w2.setCell ⟨X,3,none⟩ (.slice a0 Q0.length c0)=w3 at *
  have hXs:X+1≤w3.heap.size:=by omega
  clear hs3 hs2 hsz1
  have hX3':w3.heap[X]? = some (.cells #[.int .i64 (x.id:Nat),.int .i64 (f0:Nat),.slice aq x.q.length cq,.slice a0 Q0.length c0,.slice none 0 0,.slice ax (Q0o x).length cx] 32 (0,0)):=Q6 HX3
  clear HX3
  have HX3:=Qa hX3'
  clear hX3'
  go_wp2_with fail
  refine (Q6 KP 1 _ (Q6 HB3)).mono ?_
  rintro e w4 ⟨a1,c1,rfl,ho1,hb4⟩
  obtain ⟨hr1,hc1⟩:=Q18 ho1
  have hX4:=(hb4.block X (Qb (Q6 HX3))).trans (Q6 HX3)
  have hP4:=(hb4.block P (Qb (Q6 HP3))).trans (Q6 HP3)
  have hB4:=(Q6 HB3).trans (hb4.mono (by omega))
  have hA4:=(Q6 HA3).below hb4
  obtain ⟨Q1,hQ1⟩:∃ Q1,Q0k (S.take n) 1=Q1:=⟨_,rfl⟩
  rw [hQ1] at hr1 hc1 ⊢
  have HQ1:=Qa hQ1
  have hX5:=Qo hX4 4 (.slice a1 Q1.length c1)
  have HP5:=Qa ((Qf (w:=w4) (k:=P) (R:=X) (by omega) 4 (.slice a1 Q1.length c1)).trans hP4)
  have HA5:=Qa (hA4.set hX4 (by decide) 4 (.slice a1 Q1.length c1))
  have HU5:=Qa (hr1.set hX4 (by decide) 4 (.slice a1 Q1.length c1))
  have HB5:=Qa (hB4.setCell (p:=⟨X,4,none⟩) (by show P≤X; omega) (.slice a1 Q1.length c1))
  have hs5:(w4.setCell ⟨X,4,none⟩ (.slice a1 Q1.length c1)).heap.size=w4.heap.size:=Q0l _ _ _
  have hs4:=hb4.size
  have HX5:=Qa hX5
  obtain ⟨⟨y0,y1,y2,y3,y4,y5⟩,z0,z1,z2,z3,z4,z5⟩:=Qh hX4
  have lX:=Qb hX4
  clear ho1 hb4 hr1 hX4 hP4 hB4 hA4 hX5 hQ1 HX3 HP3 HB3 HA3
  go_upto_region 7 with fail
  clear y0 y1 y2 y3 y4 y5 z0 z1 z2 z3 z4 z5 lX
  generalize w4.setCell ⟨X,4,none⟩ (.slice a1 Q1.length c1)=w5 at *
  have hXs5:X+1≤w5.heap.size:=by omega
  clear hs5 hs4 hXs
  have hX5':w5.heap[X]? = some (.cells #[.int .i64 (x.id:Nat),.int .i64 (f0:Nat),.slice aq x.q.length cq,.slice a0 Q0.length c0,.slice a1 Q1.length c1,.slice ax (Q0o x).length cx] 32 (0,0)):=Q6 HX5
  clear HX5
  have HX5:=Qa hX5'
  clear hX5'
  go_wp2_with fail
  refine (Q6 KP 2 _ (Q6 HB5)).mono ?_
  rintro e w6 ⟨a2,c2,rfl,ho2,hb6⟩
  have hX6:=(hb6.block X (Qb (Q6 HX5))).trans (Q6 HX5)
  have hP6:=(hb6.block P (Qb (Q6 HP5))).trans (Q6 HP5)
  have hB6:=(Q6 HB5).trans (hb6.mono (by omega))
  have hA6:=(Q6 HA5).below hb6
  have hU6:=(Q6 HU5).below hb6
  obtain ⟨Q2,hQ2⟩:∃ Q2,Q0k (S.take n) 2=Q2:=⟨_,rfl⟩
  have hq2l:Q2.length≤100000000:=by rw [←hQ2]; exact Nat.le_trans (Qdj _ _) (Nat.le_trans (Qaz _ _) hl)
  rw [hQ2] at ho2 ⊢
  have HQ2:=Qa hQ2
  obtain ⟨F,hF⟩:∃ F,w5.heap.size=F:=⟨_,rfl⟩
  have HAlt:=Qa (Q6 HA5).lt
  have HUlt:=Qa (Q6 HU5).lt
  rw [hF] at ho2 hXs5 HAlt HUlt
  have hX7:=Qo hX6 5 (.slice a2 Q2.length c2)
  have hP7:=(Qf (w:=w6) (k:=P) (R:=X) (by omega) 5 (.slice a2 Q2.length c2)).trans hP6
  have HA7:=Qa (hA6.set hX6 (by decide) 5 (.slice a2 Q2.length c2))
  have HU7:=Qa (hU6.set hX6 (by decide) 5 (.slice a2 Q2.length c2))
  have HO7:=Qa (Qi ho2 hX6 (by decide) 5 (.slice a2 Q2.length c2))
  have HB7:=Qa (hB6.setCell (p:=⟨X,5,none⟩) (by show P≤X; omega) (.slice a2 Q2.length c2))
  have hs7:(w6.setCell ⟨X,5,none⟩ (.slice a2 Q2.length c2)).heap.size=w6.heap.size:=Q0l _ _ _
  have hs6:=hb6.size
  have HX7:=Qa hX7
  have HP7:=Qa hP7
  obtain ⟨⟨y0,y1,y2,y3,y4,y5⟩,z0,z1,z2,z3,z4,z5⟩:=Qh hX6
  have lX:=Qb hX6
  clear ho2 hb6 hX6 hP6 hB6 hA6 hU6 hX7 hP7 hQ2 HX5 HP5 HB5 HA5 HU5
  go_upto_region 8 with fail
  clear y0 y1 y2 y3 y4 y5 z0 z1 z2 z3 z4 z5 lX
  generalize w6.setCell ⟨X,5,none⟩ (.slice a2 Q2.length c2)=w7 at *
  have hF7:F≤w7.heap.size:=by omega
  clear hs7 hs6 hF
  have hX7':w7.heap[X]? = some (.cells #[.int .i64 (x.id:Nat),.int .i64 (f0:Nat),.slice aq x.q.length cq,.slice a0 Q0.length c0,.slice a1 Q1.length c1,.slice a2 Q2.length c2] 32 (0,0)):=Q6 HX7
  obtain ⟨⟨y0,y1,y2,y3,y4,y5⟩,z0,z1,z2,z3,z4,z5⟩:=Qh hX7'
  obtain ⟨⟨m0,m1,m2,m3,m4,m5⟩,_⟩:=Qh (Q6 HP7)
  have lX:=Qb hX7'
  have lP:=Qb (Q6 HP7)
  have hsrc:Src Tryz.prog 5 27 (.slice ax (Q0o x).length cx) (Q0o x).length (rcI (Q0o x)) w7:=by
   cases ho:x.opt with
   | false =>
    obtain ⟨rfl,rfl⟩:=Q6 HXn ho
    have e:Q0o x=[]:=by unfold Q0o; rw [ho]; rfl
    rw [e]
    exact Src.ofNil _ Tryz.underlying27 0
   | true =>
    have e:Q0o x≠[]:=by unfold Q0o; rw [ho]; simp
    refine Qg4 ?_ e
    have hwP:w.heap.size=P:=Q6 HPs
    exact (Q6 HX).below (show Below w.heap.size w w7 by rw [hwP]; exact Q6 HB7)
  have HSrc:=Qa hsrc
  obtain ⟨on,hon⟩:∃ on,(Q0o x).length=on:=⟨_,rfl⟩
  rw [hon] at HSrc m5 hopl hxc ⊢
  have HOn:=Qa hon
  have HX7:=Qa hX7'
  clear hX7' hsrc hon
  go_upto_region 9 with (at_builtin; refine Qe _ rfl _ _ 27 27 rfl F 61 i0 (.agg #[.string ⟨#[]⟩,.int .i64 0,.int .i64 0,.int .i64 0,.string ⟨#[]⟩]) 5 56 Tryz.underlying27 (Q6 Hi) (Q6 Hz0) (Q6 Hz1) (Q6 Hz2) rfl (.slice a2 Q2.length c2) Q2.length (rcI Q2) (by rfl) (Q6 HO7) (.slice ax on cx) on (rcI (Q0o x)) (by rfl) (Q6 HSrc) (by unfold maxLen; omega) (by omega) hF7 ?_; intro a3 c3 w8 hown8 hgrow8 hat8; have hb8:=Qn (Q6 HO7) hgrow8 hF7; have hX8:w8.heap[X]? = some (.cells #[.int .i64 (x.id:Nat),.int .i64 (f0:Nat),.slice aq x.q.length cq,.slice a0 Q0.length c0,.slice a1 Q1.length c1,.slice a2 Q2.length c2] 32 (0,0)):=(hb8.block X (by omega)).trans (Q6 HX7); obtain ⟨⟨q0,q1,q2,q3,q4,q5⟩,r0,r1,r2,r3,r4,r5⟩:=Qh hX8; have lX8:=Qb hX8)
  clear y0 y1 y2 y3 y4 y5 z0 z1 z2 z3 z4 z5 m0 m1 m2 m3 m4 m5 lX lP q0 q1 q2 q3 q4 q5 r0 r1 r2 r3 r4 r5 lX8
  have hP8:=(hb8.block P (by omega)).trans (Q6 HP7)
  have hA8:=(Q6 HA7).keep (Q6 HAlt) hb8
  have hU8:=(Q6 HU7).keep (Q6 HUlt) hb8
  have hB8:=(Q6 HB7).trans (hb8.mono (by omega))
  have hX9:=Qo hX8 5 (.slice a3 (Q2.length+on) c3)
  have HP9:=Qa ((Qf (w:=w8) (k:=P) (R:=X) (by omega) 5 (.slice a3 (Q2.length+on) c3)).trans hP8)
  have HA9:=Qa (hA8.set hX8 (by decide) 5 (.slice a3 (Q2.length+on) c3))
  have HU9:=Qa (hU8.set hX8 (by decide) 5 (.slice a3 (Q2.length+on) c3))
  have HB9:=Qa (hB8.setCell (p:=⟨X,5,none⟩) (by show P≤X; omega) (.slice a3 (Q2.length+on) c3))
  have ho9:=Qi hown8 hX8 (by decide) 5 (.slice a3 (Q2.length+on) c3)
  have HO9:=Qa ho9
  have HX9:=Qa hX9
  clear hX8 hP8 hA8 hU8 hB8 hX9 ho9 hown8 hgrow8 hat8 hb8 HX7 HP7 HA7 HU7 HB7 HO7 HSrc HAlt HUlt
  generalize w8.setCell ⟨X,5,none⟩ (.slice a3 (Q2.length+on) c3)=w9 at *
  have hln:(Q2++Q0o x).length=Q2.length+on:=by rw [List.length_append,Q6 HOn]
  have ho9:=Q6 HO9
  rw [←Q6D,←hln] at ho9
  obtain ⟨hE9,hEc⟩:=Q18 ho9
  rw [hln] at hEc
  have HE9:=Qa hE9
  have HLn:=Qa hln
  clear ho9 hE9 HO9 hln
  have hX9':w9.heap[X]? = some (.cells #[.int .i64 (x.id:Nat),.int .i64 (f0:Nat),.slice aq x.q.length cq,.slice a0 Q0.length c0,.slice a1 Q1.length c1,.slice a3 (Q2.length+on) c3] 32 (0,0)):=Q6 HX9
  clear HX9
  have HX9:=Qa hX9'
  clear hX9'
  have HFb:=Qa (Q8K S n f0 n (Nat.le_refl _) hnS)
  have HFs:=Qa (fun j (h:j < S.length) (hc:n≤j)=>QgC S n f0 j h hc)
  have HOr:=Qa QlF
  go_wp2_with fail
  go_loopg [9] (S.length+1 - n) (fun g vi w'=>∃ (i fl:Nat),vi=.int .i64 i∧n≤i∧i≤S.length∧g=S.length+1 - i∧fl < 65536∧Hid (Q0P S n f0 i=fl)∧Hid (w'.heap[X]? = some (.cells #[.int .i64 (x.id:Nat),.int .i64 (fl:Nat),.slice aq x.q.length cq,.slice a0 Q0.length c0,.slice a1 Q1.length c1,.slice a3 (Q2.length+on) c3] 32 (0,0)))∧Hid (w'.heap[P]? = some (.cells #[.int .i64 (x.id:Nat),.int .i64 (f0:Nat),.slice aq x.q.length cq,.slice none 0 0,.slice none 0 0,.slice ax (Q0o x).length cx] 32 (0,0)))∧Hid (RecRow w' a0 Q0)∧Hid (RecRow w' a1 Q1)∧Hid (RecRow w' a3 (Q2++Q0o x))∧Hid (Below P w w'))
  case atStart=>exact ⟨n,f0,rfl,Nat.le_refl _,hnS,rfl,hf0,HFb,HX9,HP9,HA9,HU9,HE9,HB9⟩
  case round =>
   clear HX9 HP9 HA9 HU9 HE9 HB9
   obtain ⟨i,fl,rfl,hni,hiS,rfl,hfl,HFe,HXr,HPr,HAr,HUr,HEr,HBr⟩:=hrel
   obtain ⟨⟨y0,y1,y2,y3,y4,y5⟩,z0,z1,z2,z3,z4,z5⟩:=Qh (Q6 HXr)
   have lX:=Qb (Q6 HXr)
   by_cases ci:i < S.length
   ·obtain ⟨g,o,al,cl,hga,hg,x0,_,_,_⟩:=Q9z (Q6 HRd _ (Q6 HBr)) (Q6 HDd _ (Q6 HBr)) i ci
    subst hga
    have hgw:g < wr.heap.size:=by have:=(Q6 HBr).size; have:=Qb (Q6 HPr); omega
    have hst:=Q6 HFs i ci hni
    rw [Q6 HFe] at hst
    obtain ⟨o1,o2⟩:=Q6 HOr fl
    have hfl2:=Q6 HFl n (i+1) (by omega)
    obtain ⟨pp,hpp⟩:∃ pp:Nat,S[i].part=pp:=⟨_,rfl⟩
    rw [hpp] at x0 hst
    by_cases cp:pp=2
    ·rw [if_neg (by simpa using cp)] at hst
     have f1:(((pp:Nat):Int) != 2)=false:=by rw [bne_eq_false_iff_eq]; omega
     have HFe2:=Qa hst
     clear hst o1 o2 hpp cp hfl2
     go_wp2_with fail
     go_roundg (S.length+1 - (i+1))
     case measure=>omega
     case rel=>exact ⟨i+1,fl,by go_num,by omega,by omega,rfl,hfl,HFe2,HXr,HPr,HAr,HUr,HEr,HBr⟩
    ·rw [if_pos cp] at hst
     have f1:(((pp:Nat):Int) != 2)=true:=by rw [bne_iff_ne]; omega
     by_cases cf:fl / 512 % 2=0
     ·have f2:((fl:Int) / 512 % 2 == 0)=true:=by rw [beq_iff_eq]; omega
      rw [o1 cf] at hst
      have HFe2:=Qa hst
      rw [hst] at hfl2
      have hX2:=Qo (Q6 HXr) 1 (.int .i64 ((fl:Int)+512))
      have HX2:=Qa (show (wr.setCell ⟨X,1,none⟩ (.int .i64 ((fl:Int)+512))).heap[X]? = some (.cells #[.int .i64 (x.id:Nat),.int .i64 (fl+512:Nat),.slice aq x.q.length cq,.slice a0 Q0.length c0,.slice a1 Q1.length c1,.slice a3 (Q2.length+on) c3] 32 (0,0)) from hX2)
      have HP2:=Qa ((Qf (w:=wr) (k:=P) (R:=X) (by omega) 1 (.int .i64 ((fl:Int)+512))).trans (Q6 HPr))
      have HA2:=Qa ((Q6 HAr).set (Q6 HXr) (by decide) 1 (.int .i64 ((fl:Int)+512)))
      have HU2:=Qa ((Q6 HUr).set (Q6 HXr) (by decide) 1 (.int .i64 ((fl:Int)+512)))
      have HE2:=Qa ((Q6 HEr).set (Q6 HXr) (by decide) 1 (.int .i64 ((fl:Int)+512)))
      have HB2:=Qa ((Q6 HBr).setCell (p:=⟨X,1,none⟩) (by show P≤X; omega) (.int .i64 ((fl:Int)+512)))
      clear hst o1 o2 hpp cp cf hX2
      go_wp2_with fail
      go_roundg (S.length+1 - (i+1))
      case measure=>omega
      case rel=>exact ⟨i+1,fl+512,by go_num,by omega,by omega,rfl,hfl2,HFe2,HX2,HP2,HA2,HU2,HE2,HB2⟩
     ·have f2:((fl:Int) / 512 % 2 == 0)=false:=by rw [beq_eq_false_iff_ne]; omega
      rw [o2 cf] at hst
      have HFe2:=Qa hst
      clear hst o1 o2 hpp cp cf hfl2
      go_wp2_with fail
      go_roundg (S.length+1 - (i+1))
      case measure=>omega
      case rel=>exact ⟨i+1,fl,by go_num,by omega,by omega,rfl,hfl,HFe2,HXr,HPr,HAr,HUr,HEr,HBr⟩
   ·have ei:i=S.length:=by omega
    subst ei
    have hmsg:Q0A x n=⟨x.id,(fl:Nat),x.q,Q0,Q1,Q2++Q0o x⟩:=by
     unfold Q0A
     rw [Q6 HS,Q6 HF0,Q6 HFe,Q6 HQ0,Q6 HQ1,Q6 HQ2]
    have hwP:w.heap.size=P:=Q6 HPs
    have hBw:=(Q6 HBr).size
    have hMs:MsgAt wr wr.heap.size (.agg #[.int .i64 (x.id:Nat),.int .i64 (fl:Nat),.slice aq x.q.length cq,.slice a0 Q0.length c0,.slice a1 Q1.length c1,.slice a3 (Q2.length+on) c3]) ⟨x.id,(fl:Nat),x.q,Q0,Q1,Q2++Q0o x⟩:=by
     refine ⟨aq,cq,a0,c0,a1,c1,a3,c3,by show _=Value.agg #[_,_,_,_,_,.slice a3 (Q2++Q0o x).length c3]; rw [Q6 HLn],((Q6 HQ).below (Q6 HBr)).mono (by have:=Qb (Q6 HPr); omega),(Q6 HAr).row,(Q6 HUr).row,(Q6 HEr).row,Q6 HQs,?_,?_,?_,hqc,hc0,hc1,by show (Q2++Q0o x).length≤c3; rw [Q6 HLn]; exact hEc⟩
     ·exact Q5a fun y hy=>Q3P (Q6 HSk) n 0 y (by rw [Q6 HQ0]; exact hy)
     ·exact Q5a fun y hy=>Q3P (Q6 HSk) n 1 y (by rw [Q6 HQ1]; exact hy)
     ·refine Q5a fun y hy=>?_
      rcases List.mem_append.1 hy with q | q
      ·exact Q3P (Q6 HSk) n 2 y (by rw [Q6 HQ2]; exact q)
      ·exact Qa2 x y q
    have ks:=Q3Q _ _ _ hMs
    rw [←hmsg] at ks
    have KS:=Qa ks
    clear ks hMs hmsg
    go_wp2_with fail
    refine (Q6 KS).mono ?_
    rintro e w10 ⟨⟨s,ec,rfl,hser⟩,hb10⟩
    have HB10:=Qa ((Q6 HBr).trans (hb10.mono (by have:=Qb (Q6 HPr); omega)))
    have HP10:=Qa ((hb10.block P (Qb (Q6 HPr))).trans (Q6 HPr))
    by_cases cn:n=c
    ·subst cn
     obtain ⟨k1,k2,k3⟩:=Q6 HFc
     have hse:s=(Q3m (Q0A x n).nat).1∧ec=0:=by
      rcases hser with ⟨q,_⟩ | ⟨_,q,_⟩ | ⟨_,_,q1,q2⟩
      ·exact absurd k1 q
      ·omega
      ·exact ⟨q1,q2⟩
     obtain ⟨hs1,rfl⟩:=hse
     rw [←hs1] at k3
     have f1:decide ((s.size:Int)≤(x.lim:Int))=true:=decide_eq_true (by omega)
     have HO:Hid (QhC w x n (.returned (.string s)) w10):=Qa ⟨by rw [hs1],by rw [hwP]; exact Q6 HB10⟩
     clear hs1 hser
     go_wp2_with fail
     go_ret
     exact Q6 HO
    ·have hnf:=Q6 HNo n (by omega) hnS
     have hcase:(ec == 0)=false∨(ec=0∧decide ((s.size:Int)≤(x.lim:Int))=false):=by
      rcases hser with ⟨_,_,q⟩ | ⟨_,_,_,q⟩ | ⟨q1,q2,q3,q4⟩
      ·exact .inl (by rw [q]; rfl)
      ·exact .inl (by rw [q]; rfl)
      ·refine .inr ⟨q4,decide_eq_false fun h=>hnf ⟨q1,by omega,?_⟩⟩
       rw [←q3]
       omega
     clear hser hnf
     have hn1:1≤n:=by omega
     have eon:=Q6 HOn
     rcases hcase with f1 | ⟨rfl,f1⟩
     ·go_wp2_with fail
      subst eon
      go_roundg (n - 1+2)
      case measure=>omega
      case rel=>exact ⟨n - 1,by go_num,by omega,by omega,rfl,HP10,HB10⟩
     ·have f2:=of_decide_eq_false f1
      go_wp2_with fail
      subst eon
      go_roundg (n - 1+2)
      case measure=>omega
      case rel=>exact ⟨n - 1,by go_num,by omega,by omega,rfl,HP10,HB10⟩
end Go.Proofs.YtdhobdmhnocbgabGreatDoor
