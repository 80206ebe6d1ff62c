import Derived.Test.YtdhobdmhnocbgabGreatDoorSMwG
namespace Go.Proofs.YtdhobdmhnocbgabGreatDoor
open Go.RowKit Zr
theorem Q42 {w:World} {N:Nat} {e:TypeId} {size:Nat} {g n c:Nat} {xs:List Value} (h:w.ownsRow N e size (.slice (some ⟨g,0,none⟩) n c) n xs) (j:Nat) (v:Value):(w.setCell ⟨g,j,none⟩ v).ownsRow N e size (.slice (some ⟨g,0,none⟩) n c) n (xs.set j v):=by
 refine ⟨by rw [List.length_set]; exact h.1,?_⟩
 rcases h.2 with ⟨h1,_⟩ | ⟨g',cap,cur,h1,h2,h3,h4,h5,h6,h7⟩
 ·cases h1
 ·cases h1
  refine .inr ⟨g,c,cur.setIfInBounds j v,rfl,h2,Qo h3 j v,h4,h5,by simpa using h6,?_⟩
  rw [Array.toList_setIfInBounds,List.take_set,h7]
theorem Q2s {w:World} {N:Nat} {e:TypeId} {size:Nat} {g n c:Nat} {xs:List Value} (h:w.ownsRow N e size (.slice (some ⟨g,0,none⟩) n c) n xs) (j:Nat):w.frozen? ⟨g,j,none⟩=false:=by
 rcases h.2 with ⟨h1,_⟩ | ⟨g',cap,cur,h1,h2,h3,_⟩
 ·cases h1
 ·cases h1
  exact Qd h3 j
theorem Qja (D:List Ev) (y x:Ev) (o:Nat) (ho:o=D.length * 7):(((((((evC (D++[y])).set o (.int .i64 x.kind)).set (o+1) (.string x.node)).set (o+2) (.int .i64 x.inc)).set (o+3) (.string x.addr)).set (o+4) (.int .i64 x.port)).set (o+5) (.string x.text)).set (o+6) (.string x.alias)=evC (D++[x]):=by
 rw [Q3u,Q3u]
 have hl:=Q6s D
 rw [←ho] at hl
 clear ho
 subst hl
 simp [List.set_append_right]
theorem Qi1 (L:List En) (j:Nat) (h:j < L.length):(L.take (j+1)).foldl Q1D []=Q1D ((L.take j).foldl Q1D []) L[j]:=by
 rw [List.take_succ_eq_append_getElem h,List.foldl_append]
 rfl
theorem Qk2 (e:En):Q1D [] e=[e.ev]:=by unfold Q1D; rw [dif_pos rfl]
theorem Qk1 (D:List Ev) (y:Ev) (e:En) (h:y.node≠e.key):Q1D (D++[y]) e=D++[y]++[e.ev]:=by
 unfold Q1D
 rw [dif_neg (by simp),List.getLast_concat,if_pos h]
theorem Qk3 (D:List Ev) (y:Ev) (e:En) (h:y.node=e.key) (hb:Q19 e.ev y):Q1D (D++[y]) e=D++[e.ev]:=by
 unfold Q1D
 rw [dif_neg (by simp),List.getLast_concat,if_neg (by simpa using h),if_pos hb,List.dropLast_concat]
theorem QhZ (D:List Ev) (y:Ev) (e:En) (h:y.node=e.key) (hb:¬ Q19 e.ev y):Q1D (D++[y]) e=D++[y]:=by
 unfold Q1D
 rw [dif_neg (by simp),List.getLast_concat,if_neg (by simpa using h),if_neg hb]
theorem QiE {C:List Ev} (h:C≠[]):∃ D y,C=D++[y]:=⟨C.dropLast,C.getLast h,(List.dropLast_concat_getLast h).symm⟩
theorem QeC {w:World} {N g c:Nat} {e:TypeId} {D:List Ev} {y:Ev} (h:w.ownsRow N e 7 (.slice (some ⟨g,0,none⟩) (D.length+1) c) (D.length+1) (evC (D++[y]))) :
  w.cell? ⟨g,D.length * 7,none⟩=some (.int .i64 y.kind)∧w.cell? ⟨g,D.length * 7+1,none⟩=some (.string y.node)∧w.cell? ⟨g,D.length * 7+2,none⟩=some (.int .i64 y.inc)∧w.cell? ⟨g,D.length * 7+3,none⟩=some (.string y.addr)∧w.cell? ⟨g,D.length * 7+4,none⟩=some (.int .i64 y.port)∧w.cell? ⟨g,D.length * 7+5,none⟩=some (.string y.text)∧w.cell? ⟨g,D.length * 7+6,none⟩=some (.string y.alias):=by
 have key:∀ k u,k < 7→(ev7 y)[k]? = some u→w.cell? ⟨g,D.length * 7+k,none⟩=some u:=fun k u hk hu=>by
  refine Q0v h _ _ ?_
  have:=Q4e (D++[y]) D.length (by simp) k hk
  rw [this,←hu]
  simp
 exact ⟨key 0 _ (by omega) rfl,key 1 _ (by omega) rfl,key 2 _ (by omega) rfl,key 3 _ (by omega) rfl,key 4 _ (by omega) rfl,key 5 _ (by omega) rfl,key 6 _ (by omega) rfl⟩
set_option maxRecDepth 100000 in
set_option maxHeartbeats 4000000 in
theorem Qek (l:List Ev) (a:Option Addr) (c N:Nat) (w:World) (hrow:RowAt w N a (evC l)) (hN:N≤w.heap.size) (hl:l.length≤33554432) :
  Calls Tryz.prog 128 #[.slice a l.length c] w fun e w'=>Q4N w (QaP (Q0g (Q1b l))) e w':=by
 have key:=QhO l a c N w hrow hN hl
 have Key:=Qa key
 obtain ⟨i0,hi,hz0,hz1,hz2⟩:=info_parts Tryz.info107
 have Hi:=Qa hi
 have Hz0:=Qa hz0
 have Hz1:=Qa hz1
 have Hz2:=Qa hz2
 clear hi hz0 hz1 hz2 hrow key
 go_enter Tryz.func128,Tryz.ntmps128
 go_wp2_with fail
 refine (Q6 Key).mono ?_
 rintro e w1 ⟨a1,c1,q1,he,r1,b1⟩
 have hln:(Q1b l).length=l.length:=by unfold Q1b; rw [List.length_map]
 have hls:=Q0Y (Q1b l)
 rw [hln] at hls he q1
 subst he
 obtain ⟨L,hLq⟩:∃ L,Q0g (Q1b l)=L:=⟨_,rfl⟩
 rw [hLq] at r1 hls
 have HLq:=Qa hLq
 clear hLq
 have HR:=Qa r1
 have HB0:=Qa b1
 have hb0:w.heap.size≤w1.heap.size:=b1.size
 have HT:=Qa (Qi1 L)
 have HLS:=Qa hls
 obtain ⟨M,hM⟩:∃ M,w1.heap.size=M:=⟨_,rfl⟩
 rw [hM] at HR hb0
 have HM:=Qa hM
 have hs0:M≤w1.heap.size:=by omega
 clear r1 b1 Key hln hls hM
 go_wp2_with fail
 go_loopg [4,5] (l.length+1) (fun g vl vi w'=>∃ (j n:Nat) (C:List Ev) (ar:Option Addr) (cr:Nat),vi=.int .i64 j∧j≤l.length∧g=l.length+1 - j∧vl=.slice ar n cr∧n≤j∧Hid (C.length=n)∧Hid ((L.take j).foldl Q1D []=C)∧Hid (w'.ownsRow M 107 7 (.slice ar n cr) n (evC C))∧Hid (Below M w1 w')∧M≤w'.heap.size)
 case atStart=>exact ⟨0,0,[],none,0,rfl,Nat.zero_le _,rfl,rfl,Nat.le_refl _,Qa rfl,Qa rfl,Qa (World.ownsRow_nil _ _ _ _),Qa (Below.refl _ _),hs0⟩
 case round =>
  obtain ⟨j,n,C,ar,cr,rfl,hj,rfl,rfl,hn,HN,HC,HO,HB,hs⟩:=hrel
  by_cases cj:j < l.length
  ·have cj':j < L.length:=by rw [Q6 HLS]; exact cj
   obtain ⟨b,o,rfl,hb,x0,x1,x2,x3,x4,x5,x6,x7⟩:=Qah ((Q6 HR).below (Q6 HB)) j cj'
   have hT:=Q6 HT j cj'
   rw [Q6 HC] at hT
   have HT1:=Qa hT
   clear hT
   generalize L[j]=k at *
   obtain ⟨ky,⟨kd,nd,ic,ad,pt,tx,al⟩⟩:=k
   simp only at x0 x1 x2 x3 x4 x5 x6 x7 HT1
   have hi1:(j:Int) < (l.length:Int):=by omega
   by_cases cC:C=[]
   ·subst cC
    have hn0:n=0:=(Q6 HN).symm
    subst hn0
    have hT:=Q6 HT1
    rw [Qk2] at hT
    have HT2:=Qa hT
    clear hT HT1
    go_wp2_with fail
    go_quiet (fail)
    have HOq:Hid ((wr.drewN nq).ownsRow M 107 7 (.slice ar 0 cr) 0 (evC [])):=HO
    go_wp2_with (at_builtin; refine Qe _ rfl _ _ 33 33 rfl M 107 i0 (.agg #[.int .i64 0,.string ⟨#[]⟩,.int .i64 0,.string ⟨#[]⟩,.int .i64 0,.string ⟨#[]⟩,.string ⟨#[]⟩]) 7 88 Tryz.underlying33 (Q6 Hi) (Q6 Hz0) (Q6 Hz1) (Q6 Hz2) rfl (.slice ar 0 cr) 0 (evC []) (by rfl) ((Q6 HOq).alloc _) (.slice (some ⟨wr.heap.size,0,none⟩) 1 1) 1 [.int .i64 kd,.string nd,.int .i64 ic,.string ad,.int .i64 pt,.string tx,.string al] (by rfl) (Src.ofSlice _ Tryz.underlying33 ⟨wr.heap.size,0,none⟩ 1 1 _ rfl (Q1x _ _ _ _ _ _ _ _ _ _ rfl) Qdd) (by unfold maxLen; omega) (by omega) (by simp; omega) ?_; intro a2 e2 w2 hown2 hgrow2 hat2)
    go_roundg (l.length+1 - (j+1))
    case measure=>omega
    case rel =>
     have hA:=(Below.refl M wr).alloc hs (.cells #[.int .i64 kd,.string nd,.int .i64 ic,.string ad,.int .i64 pt,.string tx,.string al] 107)
     have hB2:=Qn ((Q6 HOq).alloc (.cells #[.int .i64 kd,.string nd,.int .i64 ic,.string ad,.int .i64 pt,.string tx,.string al] 107)) hgrow2 (show M≤(wr.alloc (.cells #[.int .i64 kd,.string nd,.int .i64 ic,.string ad,.int .i64 pt,.string tx,.string al] 107)).heap.size by simp; omega)
     refine ⟨j+1,1,_,a2,e2,by go_num,by omega,rfl,rfl,by omega,Qa ?_,HT2,Qa ?_,Qa ((Q6 HB).trans (hA.trans ⟨hB2.os,hB2.tape,hB2.output,hB2.size,hB2.block⟩)),Nat.le_trans hs (Nat.le_trans hA.size hB2.size)⟩
     ·rfl
     ·exact hown2
   ·obtain ⟨D,y,rfl⟩:=QiE cC
    have hn1:n=D.length+1:=by rw [←Q6 HN,List.length_append]; rfl
    subst hn1
    obtain ⟨g,rfl,hg1,hg2,hcap⟩:=Q23 (Q6 HO) (by omega)
    obtain ⟨y0,y1,y2,y3,y4,y5,y6⟩:=QeC (Q6 HO)
    clear cC
    by_cases ck:y.node=ky
    ·have f1:=Q1i ck
     have hP:=Qk3 D y ⟨ky,⟨kd,nd,ic,ad,pt,tx,al⟩⟩ ck
     have hK:=QhZ D y ⟨ky,⟨kd,nd,ic,ad,pt,tx,al⟩⟩ ck
     rw [←Q6 HT1] at hP hK
     simp only at hP hK
     have HP:=Qa hP
     have HK:=Qa hK
     have key:=fun W=>QjP ⟨kd,nd,ic,ad,pt,tx,al⟩ y W
     unfold Ev.val at key
     simp only at key
     generalize Q19 ⟨kd,nd,ic,ad,pt,tx,al⟩ y=G at *
     have Key:=Qa key
     clear hP hK HT1 ck key
     obtain ⟨kd2,nd2,ic2,ad2,pt2,tx2,al2⟩:=y
     simp only at y0 y1 y2 y3 y4 y5 y6 f1 HP HK Key
     have hi2:(D.length:Int) < ((D.length+1:Nat):Int):=by omega
     have hd3:decide ((D.length:Int) < 0)=false:=decide_eq_false (by omega)
     have hi4:(0:Int)≤(D.length:Int):=by omega
     have hi5:(0:Int)≤(j:Int):=by omega
     have hi6:(D.length:Int) < (D.length:Int)+1:=by omega
     have hi7:((D.length+1:Nat):Int)=(D.length:Int)+1:=by omega
     go_wp2_with fail
     go_quiet (fail)
     go_wp2_with fail
     go_region_held3 (fun u=>u.cell? ⟨b,o+j * 8+1,none⟩=some (.int .i64 kd)∧u.cell? ⟨b,o+j * 8+2,none⟩=some (.string nd)∧u.cell? ⟨b,o+j * 8+3,none⟩=some (.int .i64 ic)∧u.cell? ⟨b,o+j * 8+4,none⟩=some (.string ad)∧u.cell? ⟨b,o+j * 8+5,none⟩=some (.int .i64 pt)∧u.cell? ⟨b,o+j * 8+6,none⟩=some (.string tx)∧u.cell? ⟨b,o+j * 8+7,none⟩=some (.string al)∧u.cell? ⟨g,D.length * 7,none⟩=some (.int .i64 kd2)∧u.cell? ⟨g,D.length * 7+1,none⟩=some (.string nd2)∧u.cell? ⟨g,D.length * 7+2,none⟩=some (.int .i64 ic2)∧u.cell? ⟨g,D.length * 7+3,none⟩=some (.string ad2)∧u.cell? ⟨g,D.length * 7+4,none⟩=some (.int .i64 pt2)∧u.cell? ⟨g,D.length * 7+5,none⟩=some (.string tx2)∧u.cell? ⟨g,D.length * 7+6,none⟩=some (.string al2)) (go_keep)
      (first | (go_at_call 162; refine (Q6 Key _).mono ?_; rintro e w2 ⟨⟨bb,rfl,hbb⟩,hb2⟩; have z1:=(hb2.cell (p:=⟨b,o+j * 8+1,none⟩) (show b < wr.heap.size by omega)).trans x1; have z2:=(hb2.cell (p:=⟨b,o+j * 8+2,none⟩) (show b < wr.heap.size by omega)).trans x2; have z3:=(hb2.cell (p:=⟨b,o+j * 8+3,none⟩) (show b < wr.heap.size by omega)).trans x3; have z4:=(hb2.cell (p:=⟨b,o+j * 8+4,none⟩) (show b < wr.heap.size by omega)).trans x4; have z5:=(hb2.cell (p:=⟨b,o+j * 8+5,none⟩) (show b < wr.heap.size by omega)).trans x5; have z6:=(hb2.cell (p:=⟨b,o+j * 8+6,none⟩) (show b < wr.heap.size by omega)).trans x6; have z7:=(hb2.cell (p:=⟨b,o+j * 8+7,none⟩) (show b < wr.heap.size by omega)).trans x7; have v0:=(hb2.cell (p:=⟨g,D.length * 7,none⟩) (show g < wr.heap.size by omega)).trans y0; have v1:=(hb2.cell (p:=⟨g,D.length * 7+1,none⟩) (show g < wr.heap.size by omega)).trans y1; have v2:=(hb2.cell (p:=⟨g,D.length * 7+2,none⟩) (show g < wr.heap.size by omega)).trans y2; have v3:=(hb2.cell (p:=⟨g,D.length * 7+3,none⟩) (show g < wr.heap.size by omega)).trans y3; have v4:=(hb2.cell (p:=⟨g,D.length * 7+4,none⟩) (show g < wr.heap.size by omega)).trans y4; have v5:=(hb2.cell (p:=⟨g,D.length * 7+5,none⟩) (show g < wr.heap.size by omega)).trans y5; have v6:=(hb2.cell (p:=⟨g,D.length * 7+6,none⟩) (show g < wr.heap.size by omega)).trans y6))
     have hb3:Below wr.heap.size wr w2:=⟨hb2.os,hb2.tape,hb2.output,hb2.size,hb2.block⟩
     have HO3:=Qa (Qk (Q6 HO) hb3)
     have HB3:=Qa ((Q6 HB).trans (hb3.mono hs))
     have hs3:M≤w2.heap.size:=Nat.le_trans hs hb3.size
     have HBB:=Qa hbb
     have fz0:=Q2s (Q6 HO3) (D.length * 7)
     have fz1:=Q2s (Q6 HO3) (D.length * 7+1)
     have fz2:=Q2s (Q6 HO3) (D.length * 7+2)
     have fz3:=Q2s (Q6 HO3) (D.length * 7+3)
     have fz4:=Q2s (Q6 HO3) (D.length * 7+4)
     have fz5:=Q2s (Q6 HO3) (D.length * 7+5)
     have fz6:=Q2s (Q6 HO3) (D.length * 7+6)
     clear hb2 hb3 hbb x1 x2 x3 x4 x5 x6 x7 y0 y1 y2 y3 y4 y5 y6 HO HB
     cases bb with
     | false =>
      have hT:=Q6 HK (fun h=>absurd ((Q6 HBB).2 h) (by simp))
      have HT2:=Qa hT
      clear hT
      go_wp2_with fail
      go_roundg (l.length+1 - (j+1))
      case measure=>omega
      case rel =>
       exact ⟨j+1,D.length+1,_,_,_,by go_num,by omega,rfl,rfl,by omega,HN,HT2,HO3,HB3,hs3⟩
     | true =>
      have hT:=Q6 HP ((Q6 HBB).1 (by simp))
      have HT2:=Qa hT
      clear hT
      go_wp2_with fail
      go_roundg (l.length+1 - (j+1))
      case measure=>omega
      case rel =>
       have h7:=Q42 (Q42 (Q42 (Q42 (Q42 (Q42 (Q42 (Q6 HO3) (D.length * 7) (.int .i64 kd)) (D.length * 7+1) (.string nd)) (D.length * 7+2) (.int .i64 ic)) (D.length * 7+3) (.string ad)) (D.length * 7+4) (.int .i64 pt)) (D.length * 7+5) (.string tx)) (D.length * 7+6) (.string al)
       rw [Qja D _ ⟨kd,nd,ic,ad,pt,tx,al⟩ _ rfl] at h7
       refine ⟨j+1,D.length+1,_,_,_,by go_num,by omega,rfl,rfl,by omega,Qa ?_,HT2,Qa h7,Qa ?_,?_⟩
       ·simp
       ·exact ((((((Q6 HB3).setCell (show M≤g by omega) _).setCell (show M≤g by omega) _).setCell (show M≤g by omega) _).setCell (show M≤g by omega) _).setCell (show M≤g by omega) _).setCell (show M≤g by omega) _ |>.setCell (show M≤g by omega) _
       ·simp only [Q0l]; exact hs3
    ·have hT:=Q6 HT1
     rw [Qk1 D y _ ck] at hT
     have HT2:=Qa hT
     have f1:=Q1w ck
     clear hT HT1 ck
     obtain ⟨kd2,nd2,ic2,ad2,pt2,tx2,al2⟩:=y
     simp only at y0 y1 y2 y3 y4 y5 y6 f1 HT2
     have hi2:(D.length:Int) < ((D.length+1:Nat):Int):=by omega
     have hd3:decide ((D.length:Int) < 0)=false:=decide_eq_false (by omega)
     go_wp2_with fail
     go_quiet (fail)
     have HOq:Hid ((wr.drewN nq).ownsRow M 107 7 (.slice (some ⟨g,0,none⟩) (D.length+1) cr) (D.length+1) (evC (D++[⟨kd2,nd2,ic2,ad2,pt2,tx2,al2⟩]))):=HO
     go_wp2_with (at_builtin; refine Qe _ rfl _ _ 33 33 rfl M 107 i0 (.agg #[.int .i64 0,.string ⟨#[]⟩,.int .i64 0,.string ⟨#[]⟩,.int .i64 0,.string ⟨#[]⟩,.string ⟨#[]⟩]) 7 88 Tryz.underlying33 (Q6 Hi) (Q6 Hz0) (Q6 Hz1) (Q6 Hz2) rfl (.slice (some ⟨g,0,none⟩) (D.length+1) cr) (D.length+1) (evC (D++[⟨kd2,nd2,ic2,ad2,pt2,tx2,al2⟩])) (by rfl) ((Q6 HOq).alloc _) (.slice (some ⟨wr.heap.size,0,none⟩) 1 1) 1 [.int .i64 kd,.string nd,.int .i64 ic,.string ad,.int .i64 pt,.string tx,.string al] (by rfl) (Src.ofSlice _ Tryz.underlying33 ⟨wr.heap.size,0,none⟩ 1 1 _ rfl (Q1x _ _ _ _ _ _ _ _ _ _ rfl) Qdd) (by unfold maxLen; omega) (by omega) (by simp; omega) ?_; intro a2 e2 w2 hown2 hgrow2 hat2)
     go_roundg (l.length+1 - (j+1))
     case measure=>omega
     case rel =>
      have hA:=(Below.refl M wr).alloc hs (.cells #[.int .i64 kd,.string nd,.int .i64 ic,.string ad,.int .i64 pt,.string tx,.string al] 107)
      have hB2:=Qn ((Q6 HOq).alloc (.cells #[.int .i64 kd,.string nd,.int .i64 ic,.string ad,.int .i64 pt,.string tx,.string al] 107)) hgrow2 (show M≤(wr.alloc (.cells #[.int .i64 kd,.string nd,.int .i64 ic,.string ad,.int .i64 pt,.string tx,.string al] 107)).heap.size by simp; omega)
      refine ⟨j+1,D.length+1+1,_,a2,e2,by go_num,by omega,rfl,rfl,by omega,Qa ?_,HT2,Qa ?_,Qa ((Q6 HB).trans (hA.trans ⟨hB2.os,hB2.tape,hB2.output,hB2.size,hB2.block⟩)),Nat.le_trans hs (Nat.le_trans hA.size hB2.size)⟩
      ·simp
      ·rw [Q3u]; exact hown2
  ·have ej:j=l.length:=by omega
   subst ej
   have hw:Q4N w (QaP L) (.returned (.slice ar n cr)) wr:=by
    have h1:=Q6 HC
    have e:L.take l.length=L:=by rw [←Q6 HLS]; exact List.take_length
    rw [e] at h1
    have h2:QaP L=C:=h1
    rw [h2]
    refine ⟨ar,cr,by rw [Q6 HN],?_,?_⟩
    ·rw [Q6 HN]; exact Q3e hb0 (Q6 HO)
    ·exact (Q6 HB0).trans ((Q6 HB).mono hb0)
   have HW:=Qa hw
   clear hw
   go_wp2_with fail
   go_ret
   rw [Q6 HLq]
   exact Q6 HW
theorem QcL (c:List Ev) (e:En):(Q1D c e).length≤c.length+1:=by
 unfold Q1D
 split
 ·simp
 ·split
  ·simp
  ·split
   ·rw [List.length_append,List.length_dropLast]; simp
   ·omega
theorem Qfy (L:List En):(QaP L).length≤L.length:=by
 have:∀ (L:List En) (c:List Ev),(L.foldl Q1D c).length≤c.length+L.length:=by
  intro L
  induction L with
  | nil=>intro c; simp
  | cons x L ih=>intro c; have h1:=ih (Q1D c x); have h2:=QcL c x; simp only [List.foldl_cons,List.length_cons]; omega
 have:=this L []
 rw [List.length_nil,Nat.zero_add] at this
 exact this
def Q3I (l:List Ev):List Ev:=l.filter fun e=>decide (e.kind=1)
theorem Qea (l:List Ev) (j:Nat) (h:j < l.length):(l[j].kind=1→Q3I (l.take (j+1))=Q3I (l.take j)++[l[j]])∧(l[j].kind≠1→Q3I (l.take (j+1))=Q3I (l.take j)):=by
 rw [List.take_succ_eq_append_getElem h]
 unfold Q3I
 rw [List.filter_append]
 refine ⟨fun hg=>?_,fun hg=>?_⟩
 ·rw [List.filter_cons_of_pos (by simpa using hg)]; rfl
 ·rw [List.filter_cons_of_neg (by simpa using hg)]; simp
set_option maxRecDepth 100000 in
set_option maxHeartbeats 2000000 in
theorem Qhr (l:List Ev) (a:Option Addr) (c N:Nat) (w:World) (hrow:RowAt w N a (evC l)) (hN:N≤w.heap.size) (hl:l.length≤33554432) :
  Calls Tryz.prog 92 #[.slice a l.length c] w fun e w'=>Q4N w (Q3I (QaP (Q0g (Q1b l)))) e w':=by
 have key:=Qek l a c N w hrow hN hl
 have Key:=Qa key
 obtain ⟨i0,hi,hz0,hz1,hz2⟩:=info_parts Tryz.info107
 have Hi:=Qa hi
 have Hz0:=Qa hz0
 have Hz1:=Qa hz1
 have Hz2:=Qa hz2
 have hcl:=Qfy (Q0g (Q1b l))
 rw [Q0Y] at hcl
 have hnl:(Q1b l).length=l.length:=by unfold Q1b; rw [List.length_map]
 rw [hnl] at hcl
 clear hi hz0 hz1 hz2 hrow key hnl
 go_enter Tryz.func92,Tryz.ntmps92
 go_wp2_with fail
 refine (Q6 Key).mono ?_
 rintro e w1 ⟨a1,c1,rfl,o1,b1⟩
 obtain ⟨C,hC⟩:∃ C,QaP (Q0g (Q1b l))=C:=⟨_,rfl⟩
 rw [hC] at o1 hcl ⊢
 have HCq:=Qa hC
 have HR:=Qa (Q0u o1)
 have HB0:=Qa b1
 have hb0:w.heap.size≤w1.heap.size:=b1.size
 have HT:=Qa (Qea C)
 obtain ⟨M,hM⟩:∃ M,w1.heap.size=M:=⟨_,rfl⟩
 rw [hM] at HR hb0
 have hs0:M≤w1.heap.size:=by omega
 clear o1 b1 Key hC hM
 go_wp2_with fail
 go_loopg [4,5] (C.length+1) (fun g vl vi w'=>∃ (j n:Nat) (ar:Option Addr) (cr:Nat),vi=.int .i64 j∧j≤C.length∧g=C.length+1 - j∧vl=.slice ar n cr∧n≤j∧Hid ((Q3I (C.take j)).length=n)∧Hid (w'.ownsRow M 107 7 (.slice ar n cr) n (evC (Q3I (C.take j))))∧Hid (Below M w1 w')∧M≤w'.heap.size)
 case atStart=>exact ⟨0,0,none,0,rfl,Nat.zero_le _,rfl,rfl,Nat.le_refl _,Qa rfl,Qa (World.ownsRow_nil _ _ _ _),Qa (Below.refl _ _),hs0⟩
 case round =>
  obtain ⟨j,n,ar,cr,rfl,hj,rfl,rfl,hn,HS,HO,HB,hs⟩:=hrel
  by_cases cj:j < C.length
  ·obtain ⟨b,o,rfl,hb,x0,x1,x2,x3,x4,x5,x6⟩:=Q2K ((Q6 HR).below (Q6 HB)) j cj
   obtain ⟨t1,t2⟩:=Q6 HT j cj
   have T1:=Qa t1
   have T2:=Qa t2
   clear t1 t2
   generalize C[j]=k at *
   obtain ⟨kd,nd,ic,ad,pt,tx,al⟩:=k
   simp only at x0 x1 x2 x3 x4 x5 x6 T1 T2
   by_cases ck:kd=1
   ·have ht:=Q6 T1 ck
    have HT1:=Qa ht
    have e1:(kd == 1)=true:=by rw [beq_iff_eq]; exact ck
    clear ht ck
    go_wp2_with (at_builtin; refine Qe _ rfl _ _ 33 33 rfl M 107 i0 (.agg #[.int .i64 0,.string ⟨#[]⟩,.int .i64 0,.string ⟨#[]⟩,.int .i64 0,.string ⟨#[]⟩,.string ⟨#[]⟩]) 7 88 Tryz.underlying33 (Q6 Hi) (Q6 Hz0) (Q6 Hz1) (Q6 Hz2) rfl (.slice ar n cr) n (evC (Q3I (C.take j))) (by rfl) ((Q6 HO).alloc _) (.slice (some ⟨wr.heap.size,0,none⟩) 1 1) 1 [.int .i64 kd,.string nd,.int .i64 ic,.string ad,.int .i64 pt,.string tx,.string al] (by rfl) (Src.ofSlice _ Tryz.underlying33 ⟨wr.heap.size,0,none⟩ 1 1 _ rfl (Q1x _ _ _ _ _ _ _ _ _ _ rfl) Qdd) (by unfold maxLen; omega) (by omega) (by simp; omega) ?_; intro a1 e1 w2 hown2 hgrow2 hat2)
    go_roundg (C.length+1 - (j+1))
    case measure=>omega
    case rel =>
     have hA:=(Below.refl M wr).alloc hs (.cells #[.int .i64 kd,.string nd,.int .i64 ic,.string ad,.int .i64 pt,.string tx,.string al] 107)
     have hB2:=Qn ((Q6 HO).alloc _) hgrow2 (Nat.le_trans hs hA.size)
     refine ⟨j+1,n+1,_,_,by go_num,by omega,rfl,rfl,by omega,Qa ?_,Qa ?_,Qa ((Q6 HB).trans (hA.trans hB2)),Nat.le_trans hs (Nat.le_trans hA.size hgrow2.size)⟩
     ·rw [Q6 HT1,List.length_append,Q6 HS]; rfl
     ·rw [Q6 HT1,Q3u]; exact hown2
   ·have ht:=Q6 T2 ck
    have HT2:=Qa ht
    have e1:(kd == 1)=false:=beq_eq_false_iff_ne.2 ck
    clear ht ck
    go_wp2_with fail
    go_roundg (C.length+1 - (j+1))
    case measure=>omega
    case rel=>exact ⟨j+1,n,ar,cr,by go_num,by omega,rfl,rfl,by omega,Qa (by rw [Q6 HT2]; exact Q6 HS),Qa (by rw [Q6 HT2]; exact Q6 HO),HB,hs⟩
  ·have ej:j=C.length:=by omega
   subst ej
   have hw:Q4N w (Q3I C) (.returned (.slice ar n cr)) wr:=by
    have h1:=Q6 HS
    have h2:=Q6 HO
    rw [List.take_length] at h1 h2
    exact ⟨ar,cr,by rw [h1],by rw [h1]; exact Q3e hb0 h2,(Q6 HB0).trans ((Q6 HB).mono hb0)⟩
   have HW:=Qa hw
   clear hw
   go_wp2_with fail
   go_ret
   rw [Q6 HCq]
   exact Q6 HW
theorem Qis (l:List Ev) (j:Nat) (h:j < l.length):Q8i (l.take (j+1))=if Q8i (l.take j) < l[j].inc then l[j].inc else Q8i (l.take j):=by
 unfold Q8i
 rw [List.take_succ_eq_append_getElem h,List.foldl_append]
 rfl
set_option maxRecDepth 100000 in
set_option maxHeartbeats 2000000 in
theorem Qew (l:List Ev) (a:Option Addr) (c N:Nat) (w:World) (hrow:RowAt w N a (evC l)) (hl:l.length≤33554432) :
  Calls Tryz.prog 91 #[.slice a l.length c] w fun e w'=>e=.returned (.int .i64 (Q8i l))∧w'=w:=by
 have HRow:=Qa hrow
 have HT:=Qa (Qis l)
 clear hrow
 go_enter Tryz.func91,Tryz.ntmps91
 go_wp2_with fail
 go_loop [3,4] (fun v i=>∃ (j:Nat) (m:Int),j≤l.length∧i=.int .i64 j∧v=.int .i64 m∧Hid (Q8i (l.take j)=m)) (fun _ i=>l.length - (intOf i).toNat)
 case atStart=>exact ⟨0,0,Nat.zero_le _,rfl,rfl,Qa rfl⟩
 case round =>
  obtain ⟨j,m,hj,rfl,rfl,HS⟩:=hrel
  by_cases cj:j < l.length
  ·obtain ⟨b,o,rfl,hb,x0,x1,x2,x3,x4,x5,x6⟩:=Q2K (Q6 HRow) j cj
   have ht:=Q6 HT j cj
   rw [Q6 HS] at ht
   generalize l[j]=k at *
   obtain ⟨kd,nd,ic,ad,pt,tx,al⟩:=k
   simp only at x0 x1 x2 x3 x4 x5 x6 ht
   by_cases cm:m < ic
   ·rw [if_pos cm] at ht
    have HT2:=Qa ht
    clear ht
    go_wp2_with fail
    go_round
    case rel=>exact ⟨j+1,_,by omega,by go_num,rfl,HT2⟩
    case measure=>simp [intOf]; omega
   ·rw [if_neg cm] at ht
    have HT2:=Qa ht
    clear ht
    go_wp2_with fail
    go_round
    case rel=>exact ⟨j+1,_,by omega,by go_num,rfl,HT2⟩
    case measure=>simp [intOf]; omega
  ·have ej:j=l.length:=by omega
   subst ej
   have h1:=Q6 HS
   rw [List.take_length] at h1
   have H1:=Qa h1
   clear h1
   go_wp2_with fail
   go_ret
   exact ⟨by rw [Q6 H1]; rfl,rfl⟩
def Q9i (up:List Ev) (L:List En) (k i:Nat):Prop:=∀ m (h:m < up.length),m < k→∀ i' (h':i' < L.length),i≤i'→ltS up[m].node L[i'].key=true
theorem Q7F {up:List Ev} {L:List En} {k i:Nat} (h:Q9i up L k i):Q9i up L k (i+1):=fun m hm hk i' h' hi=>h m hm hk i' h' (by omega)
theorem QgN {x y z:ByteArray} (h1:ltS x y=true) (h2:ltS z y=false):ltS x z=true:=by
 cases e:ltS x z with
 | true=>rfl
 | false =>
  cases e2:ltS z x with
  | true=>rw [Q1U e2 h1] at h2; cases h2
  | false=>rw [Q1T e e2] at h1; rw [h1] at h2; cases h2
theorem Qkn {up:List Ev} {L:List En} (hs:Q2T L) {k i:Nat} (hi:i < L.length) (hk:k < up.length) (h:Q9i up L k i) (hlt:ltS up[k].node L[i].key=true):Q9i up L (k+1) i:=by
 intro m hm hmk i' h' hii
 rcases Nat.lt_or_ge m k with q | q
 ·exact h m hm q i' h' hii
 ·have:m=k:=by omega
  subst this
  rcases Nat.eq_or_lt_of_le hii with e | e
  ·subst e; exact hlt
  ·exact QgN hlt ((List.pairwise_iff_getElem.1 hs) i i' hi h' e)
theorem Qkf {up:List Ev} (hr:Q3H up) {L:List En} {k i:Nat} (hi:i < L.length) (h:Q9i up L k i) (hk:∀ h:k < up.length,ltS up[k].node L[i].key=false):Q9N up L[i].key↔∃ h:k < up.length,up[k].node=L[i].key:=by
 constructor
 ·rintro ⟨u,hu,hun⟩
  obtain ⟨m,hm,rfl⟩:=List.mem_iff_getElem.1 hu
  have h1:k≤m:=by
   rcases Nat.lt_or_ge m k with q | q
   ·have:=h m hm q i hi (Nat.le_refl _)
    rw [hun,Q1f] at this
    cases this
   ·exact q
  rcases Nat.eq_or_lt_of_le h1 with e | e
  ·subst e; exact ⟨hm,hun⟩
  ·have h2:=(List.pairwise_iff_getElem.1 hr) k m (by omega) hm e
   rw [hun,hk (by omega)] at h2
   cases h2
 ·rintro ⟨hk2,he⟩
  exact ⟨_,List.getElem_mem hk2,he⟩
theorem Qgk {up:List Ev} {L:List En} {i:Nat} (h:i < L.length) (hc:(∃ _:0 < i,(L[i - 1]'(by omega)).key=L[i].key)∨Q9N up L[i].key):Q2v up L (i+1)=Q2v up L i:=by
 conv=>lhs; unfold Q2v
 rw [dif_pos h,if_pos hc]
theorem Qgj {up:List Ev} {L:List En} {i:Nat} (h:i < L.length) (hc:¬ ((∃ _:0 < i,(L[i - 1]'(by omega)).key=L[i].key)∨Q9N up L[i].key)):Q2v up L (i+1)=Q2v up L i++[L[i].ev]:=by
 conv=>lhs; unfold Q2v
 rw [dif_pos h,if_neg hc]
set_option maxRecDepth 100000 in
set_option maxHeartbeats 4000000 in
theorem Qgl (up:List Ev) (a:Option Addr) (c N:Nat) (w:World) (hrow:RowAt w N a (evC up)) (hN:N≤w.heap.size) (hl:up.length≤33554432) (hr:Q3H up) :
  Calls Tryz.prog 132 #[.slice a up.length c] w fun e w'=>Q4N w (Q2v up (Q0g (Q0d up)) (Q0g (Q0d up)).length) e w':=by
 have key:=Qgv up a c N w hrow hN hl
 have Key:=Qa key
 have HRow:=Qa hrow
 have HRi:=Qa hr
 obtain ⟨i0,hi,hz0,hz1,hz2⟩:=info_parts Tryz.info107
 have Hi:=Qa hi
 have Hz0:=Qa hz0
 have Hz1:=Qa hz1
 have Hz2:=Qa hz2
 clear hi hz0 hz1 hz2 hrow key hr
 go_enter Tryz.func132,Tryz.ntmps132
 go_wp2_with fail
 refine (Q6 Key).mono ?_
 rintro e w1 ⟨a1,c1,q1,he,r1,b1⟩
 have hln:(Q0d up).length≤up.length:=by have:=Q4V up up.length; rw [List.take_length] at this; exact this
 have hls:=Q0Y (Q0d up)
 have HSo:=Qa (Q2t (Q0d up))
 rw [←hls] at he q1
 obtain ⟨L,hLq⟩:∃ L,Q0g (Q0d up)=L:=⟨_,rfl⟩
 rw [hLq] at r1 hls he q1 HSo
 subst he
 have hll:L.length≤up.length:=by omega
 have HLq:=Qa hLq
 have HR:=Qa r1
 have HB0:=Qa b1
 have hb0:w.heap.size≤w1.heap.size:=b1.size
 obtain ⟨M,hM⟩:∃ M,w1.heap.size=M:=⟨_,rfl⟩
 rw [hM] at HR hb0
 have hs0:M≤w1.heap.size:=by omega
 have HRow1:=Qa ((Q6 HRow).below (b1.mono hN))
 clear r1 b1 Key hln hls hM hLq HRow
 go_wp2_with fail
 go_loopg [4,5,6] (L.length+1) (fun g vl vk vi w'=>∃ (j n k:Nat) (ar:Option Addr) (cr:Nat),vi=.int .i64 j∧vk=.int .i64 k∧k≤up.length∧j≤L.length∧g=L.length+1 - j∧vl=.slice ar n cr∧n≤j∧Hid ((Q2v up L j).length=n)∧Hid (w'.ownsRow M 107 7 (.slice ar n cr) n (evC (Q2v up L j)))∧Hid (Q9i up L k j)∧Hid (Below M w1 w')∧M≤w'.heap.size)
 case atStart=>exact ⟨0,0,0,none,0,rfl,rfl,Nat.zero_le _,Nat.zero_le _,rfl,rfl,Nat.le_refl _,Qa rfl,Qa (World.ownsRow_nil _ _ _ _),Qa (fun m hm hk=>by omega),Qa (Below.refl _ _),hs0⟩
 case round =>
  obtain ⟨j,n,k0,ar,cr,rfl,rfl,hk0,hj,rfl,rfl,hn,HS,HO,HLk0,HB,hs⟩:=hrel
  by_cases cj:j < L.length
  ·have hRl:=(Q6 HR).below (Q6 HB)
   have hRu:=(Q6 HRow1).below ((Q6 HB).mono (Nat.le_trans hN hb0))
   have HRu:=Qa hRu
   obtain ⟨b,o,rfl,hb,x0,x1,x2,x3,x4,x5,x6,x7⟩:=Qah hRl j cj
   have hSk:=@Qgk up L j cj
   have hPu:=@Qgj up L j cj
   have hIs:=fun k=>@Qkf up (Q6 HRi) L k j cj
   have hLo:=fun k hk=>@Qkn up L (Q6 HSo) k j cj hk
   have HSk:=Qa hSk
   have HPu0:=Qa hPu
   have HIs:=Qa hIs
   have HLo:=Qa hLo
   clear hRu hSk hPu hIs hLo
   have hi1:(j:Int) < (L.length:Int):=by omega
   have hi0:(0:Int)≤(j:Int):=by omega
   go_upto_region 7 with fail
   go_cut [30] (fun v w'=>(∃ bb,v=.bool bb∧Hid (bb=true↔∃ _:0 < j,(L[j - 1]'(by omega)).key=L[j].key))∧∃ m0,w'=wr.drewN m0)
   case first =>
    by_cases c0:0 < j
    ·obtain ⟨j',rfl⟩:∃ j',j=j'+1:=⟨j - 1,by omega⟩
     obtain ⟨b2,o2,he2,_,z0,_⟩:=Qah hRl j' (by omega)
     cases he2
     have hiff:∀ bb:Bool,(bb=true↔L[j'].key=L[j'+1].key)→Hid (bb=true↔∃ _:0 < j'+1,(L[j'+1 - 1]'(by omega)).key=L[j'+1].key):=fun bb h=>Qa ⟨fun h1=>⟨c0,h.1 h1⟩,fun ⟨_,h1⟩=>h.2 h1⟩
     have HIff:=Qa hiff
     clear hiff hRl HSk HPu0 HIs HLo
     generalize L[j'+1].key=ky at *
     generalize L[j'].key=ky2 at *
     have d0:decide ((0:Int) < (j':Int)+1)=true:=decide_eq_true (by omega)
     have d1:(j':Int) < (L.length:Int):=by omega
     have d2:(j':Int)+1 < (L.length:Int):=by omega
     have d3:(0:Int)≤(j':Int):=by omega
     by_cases ce:ky2=ky
     ·have f1:=Q1i ce
      have hh:=Q6 HIff true ⟨fun _=>ce,fun _=>rfl⟩
      have HH:=Qa hh
      clear hh HIff ce
      go_quiet (fail)
      go_wp2_with fail
      go_meet
      exact ⟨⟨_,rfl,Qa ⟨fun _=>(Q6 (Q6 HH)).1 (by trivial),fun _=>rfl⟩⟩,_,rfl⟩
     ·have f1:=Q1w ce
      have hh:=Q6 HIff false ⟨fun h=>by simp at h,fun h=>absurd h ce⟩
      have HH:=Qa hh
      clear hh HIff ce
      go_quiet (fail)
      go_wp2_with fail
      go_meet
      exact ⟨⟨_,rfl,Q6 HH⟩,_,rfl⟩
    ·have d0:decide ((0:Int) < (j:Int))=false:=decide_eq_false (by omega)
     have hh:Hid (false=true↔∃ _:0 < j,(L[j - 1]'(by omega)).key=L[j].key):=Qa ⟨fun h=>by simp at h,fun ⟨h,_⟩=>absurd h c0⟩
     have HH:=Qa hh
     clear hh hRl HSk HPu0 HIs HLo
     generalize L[j].key=ky at *
     go_quiet (fail)
     go_wp2_with fail
     go_meet
     exact ⟨⟨_,rfl,Q6 HH⟩,_,rfl⟩
   case rest =>
    obtain ⟨⟨bb,rfl,hbb⟩,m0,rfl⟩:=hcut
    cases bb with
    | true =>
     have hsk:=Q6 HSk (.inl ((Q6 hbb).1 rfl))
     have HSk2:=Qa hsk
     clear hsk HSk HPu0 HIs HLo hbb hRl
     go_wp2_with fail
     go_roundg (L.length+1 - (j+1))
     case measure=>omega
     case rel=>exact ⟨j+1,n,k0,ar,cr,by go_num,rfl,hk0,by omega,rfl,rfl,by omega,Qa (by rw [Q6 HSk2]; exact Q6 HS),Qa (by rw [Q6 HSk2]; exact Q6 HO),Qa (Q7F (Q6 HLk0)),Qa ⟨(Q6 HB).os,(Q6 HB).tape,(Q6 HB).output,(Q6 HB).size,(Q6 HB).block⟩,hs⟩
    | false =>
     have hno:¬ ∃ _:0 < j,(L[j - 1]'(by omega)).key=L[j].key:=fun h=>absurd ((Q6 hbb).2 h) (by simp)
     have hsk:=fun h=>Q6 HSk (.inr h)
     have hpu:=fun h=>Q6 HPu0 (fun hc=>hc.elim hno h)
     have HSk2:=Qa hsk
     have HPu2:=Qa hpu
     clear hsk hpu hno HSk HPu0 hbb hRl
     generalize L[j]=x at *
     obtain ⟨ky,⟨kd,nd,ic,ad,pt,tx,al⟩⟩:=x
     simp only at x0 x1 x2 x3 x4 x5 x6 x7 HSk2 HPu2 HIs HLo
     go_wp2_with fail
     go_loopw [5] (fun vk w'=>∃ k m:Nat,vk=.int .i64 k∧k≤up.length∧Hid (Q9i up L k j)∧w'=wr.drewN (m0+m)) (fun vk _=>up.length - (intOf vk).toNat)
     case atStart=>exact ⟨k0,0,rfl,hk0,HLk0,rfl⟩
     case round =>
      obtain ⟨k,m,rfl,hk,HLk,rfl⟩:=hrel
      by_cases ck:k < up.length
      ·obtain ⟨b3,o3,rfl,_,_,y1,_,_,_,_,_⟩:=Q2K (Q6 HRu) k ck
       have hlo:=Q6 HLo k ck (Q6 HLk)
       have his:=Q6 HIs k (Q6 HLk)
       have hn1:(k:Int) < (up.length:Int):=by omega
       have hn2:decide ((k:Int) < (up.length:Int))=true:=decide_eq_true hn1
       have hn3:(0:Int)≤(k:Int):=by omega
       have hn4:((k:Int) == (up.length:Int))=false:=beq_eq_false_iff_ne.2 (by omega)
       have HLo2:=Qa hlo
       have HIs2:=Qa his
       clear hlo his HLo HIs
       cases q:ltS up[k].node ky with
       | true =>
        have HLk1:=Qa (Q6 HLo2 q)
        have q':Op.bytesLess up[k].node.toList ky.toList=true:=q
        clear HLo2 HIs2 q HSk2 HPu2
        generalize up[k].node=un at *
        go_wp2_with fail
        go_quiet (fail)
        go_wp2_with fail
        refine ⟨⟨k+1,m+nq,by go_num,by omega,HLk1,by rw [Nat.add_assoc]⟩,by simp [intOf]; omega⟩
       | false =>
        have q':Op.bytesLess up[k].node.toList ky.toList=false:=q
        have his:=Q6 HIs2 (fun _=>q)
        clear HLo2 HIs2 q
        by_cases ce:up[k].node=ky
        ·have hsk:=Q6 HSk2 (his.2 ⟨ck,ce⟩)
         have HSk3:=Qa hsk
         have f1:=Q1i ce
         clear hsk his ce HSk2 HPu2
         generalize up[k].node=un at *
         go_wp2_with fail
         go_quiet (fail)
         go_wp2_with fail
         go_quiet (fail)
         go_wp2_with fail
         go_roundg (L.length+1 - (j+1))
         case measure=>omega
         case rel=>exact ⟨j+1,n,k,ar,cr,by go_num,rfl,hk,by omega,rfl,rfl,by omega,Qa (by rw [Q6 HSk3]; exact Q6 HS),Qa (by rw [Q6 HSk3]; exact Q6 HO),Qa (Q7F (Q6 HLk)),Qa ⟨(Q6 HB).os,(Q6 HB).tape,(Q6 HB).output,(Q6 HB).size,(Q6 HB).block⟩,hs⟩
        ·have hpu:=Q6 HPu2 (fun h=>by obtain ⟨_,h⟩:=his.1 h; exact ce h)
         have HPu:=Qa hpu
         have f1:=Q1w ce
         clear hpu his ce HSk2 HPu2
         generalize up[k].node=un at *
         go_wp2_with fail
         go_quiet (fail)
         go_wp2_with fail
         go_quiet (fail)
         have HOq:=HO
         go_wp2_with (at_builtin; refine Qe _ rfl _ _ 33 33 rfl M 107 i0 (.agg #[.int .i64 0,.string ⟨#[]⟩,.int .i64 0,.string ⟨#[]⟩,.int .i64 0,.string ⟨#[]⟩,.string ⟨#[]⟩]) 7 88 Tryz.underlying33 (Q6 Hi) (Q6 Hz0) (Q6 Hz1) (Q6 Hz2) rfl (.slice ar n cr) n (evC (Q2v up L j)) (by rfl) ((Q6 HOq).alloc _) (.slice (some ⟨wr.heap.size,0,none⟩) 1 1) 1 [.int .i64 kd,.string nd,.int .i64 ic,.string ad,.int .i64 pt,.string tx,.string al] (by rfl) (Src.ofSlice _ Tryz.underlying33 ⟨wr.heap.size,0,none⟩ 1 1 _ rfl (Q1x _ _ _ _ _ _ _ _ _ _ rfl) Qdd) (by unfold maxLen; omega) (by omega) (by simp; omega) ?_; intro a2 e2 w2 hown2 hgrow2 hat2)
         go_roundg (L.length+1 - (j+1))
         case measure=>omega
         case rel =>
          have hA:=(Below.refl M wr).alloc hs (.cells #[.int .i64 kd,.string nd,.int .i64 ic,.string ad,.int .i64 pt,.string tx,.string al] 107)
          have hB2:=Qn ((Q6 HOq).alloc (.cells #[.int .i64 kd,.string nd,.int .i64 ic,.string ad,.int .i64 pt,.string tx,.string al] 107)) ⟨hgrow2.os,hgrow2.tape,hgrow2.output,hgrow2.size,hgrow2.block⟩ (show M≤(wr.alloc (.cells #[.int .i64 kd,.string nd,.int .i64 ic,.string ad,.int .i64 pt,.string tx,.string al] 107)).heap.size by simp; omega)
          refine ⟨j+1,n+1,k,a2,e2,by go_num,by go_num,by omega,by omega,rfl,rfl,by omega,Qa ?_,Qa ?_,Qa (Q7F (Q6 HLk)),Qa ((Q6 HB).trans (hA.trans ⟨hB2.os,hB2.tape,hB2.output,hB2.size,hB2.block⟩)),Nat.le_trans hs (Nat.le_trans hA.size hB2.size)⟩
          ·rw [Q6 HPu,List.length_append,Q6 HS]; rfl
          ·rw [Q6 HPu,Q3u]; exact hown2
      ·have ek:k=up.length:=by omega
       have his:=Q6 HIs k (Q6 HLk) (fun h=>absurd h ck)
       have hpu:=Q6 HPu2 (fun h=>by obtain ⟨h,_⟩:=his.1 h; exact ck h)
       have HPu:=Qa hpu
       have hn2:decide ((k:Int) < (up.length:Int))=false:=decide_eq_false (by omega)
       have hn4:((k:Int) == (up.length:Int))=true:=by rw [beq_iff_eq]; omega
       have hn5:up.length≤k:=by omega
       clear hpu his HSk2 HPu2 HIs HLo ek
       go_wp2_with fail
       go_quiet (fail)
       go_wp2_with fail
       go_quiet (fail)
       have HOq:=HO
       go_wp2_with (at_builtin; refine Qe _ rfl _ _ 33 33 rfl M 107 i0 (.agg #[.int .i64 0,.string ⟨#[]⟩,.int .i64 0,.string ⟨#[]⟩,.int .i64 0,.string ⟨#[]⟩,.string ⟨#[]⟩]) 7 88 Tryz.underlying33 (Q6 Hi) (Q6 Hz0) (Q6 Hz1) (Q6 Hz2) rfl (.slice ar n cr) n (evC (Q2v up L j)) (by rfl) ((Q6 HOq).alloc _) (.slice (some ⟨wr.heap.size,0,none⟩) 1 1) 1 [.int .i64 kd,.string nd,.int .i64 ic,.string ad,.int .i64 pt,.string tx,.string al] (by rfl) (Src.ofSlice _ Tryz.underlying33 ⟨wr.heap.size,0,none⟩ 1 1 _ rfl (Q1x _ _ _ _ _ _ _ _ _ _ rfl) Qdd) (by unfold maxLen; omega) (by omega) (by simp; omega) ?_; intro a2 e2 w2 hown2 hgrow2 hat2)
       go_roundg (L.length+1 - (j+1))
       case measure=>omega
       case rel =>
        have hA:=(Below.refl M wr).alloc hs (.cells #[.int .i64 kd,.string nd,.int .i64 ic,.string ad,.int .i64 pt,.string tx,.string al] 107)
        have hB2:=Qn ((Q6 HOq).alloc (.cells #[.int .i64 kd,.string nd,.int .i64 ic,.string ad,.int .i64 pt,.string tx,.string al] 107)) ⟨hgrow2.os,hgrow2.tape,hgrow2.output,hgrow2.size,hgrow2.block⟩ (show M≤(wr.alloc (.cells #[.int .i64 kd,.string nd,.int .i64 ic,.string ad,.int .i64 pt,.string tx,.string al] 107)).heap.size by simp; omega)
        refine ⟨j+1,n+1,k,a2,e2,by go_num,by go_num,by omega,by omega,rfl,rfl,by omega,Qa ?_,Qa ?_,Qa (Q7F (Q6 HLk)),Qa ((Q6 HB).trans (hA.trans ⟨hB2.os,hB2.tape,hB2.output,hB2.size,hB2.block⟩)),Nat.le_trans hs (Nat.le_trans hA.size hB2.size)⟩
        ·rw [Q6 HPu,List.length_append,Q6 HS]; rfl
        ·rw [Q6 HPu,Q3u]; exact hown2
  ·have ej:j=L.length:=by omega
   subst ej
   have hw:Q4N w (Q2v up L L.length) (.returned (.slice ar n cr)) wr :=
    ⟨ar,cr,by rw [Q6 HS],by rw [Q6 HS]; exact Q3e hb0 (Q6 HO),(Q6 HB0).trans ((Q6 HB).mono hb0)⟩
   have HW:=Qa hw
   clear hw
   go_wp2_with fail
   go_ret
   rw [Q6 HLq]
   exact Q6 HW
end Go.Proofs.YtdhobdmhnocbgabGreatDoor
