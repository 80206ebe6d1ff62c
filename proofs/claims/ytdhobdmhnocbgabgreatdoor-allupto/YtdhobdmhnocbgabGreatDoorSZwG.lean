import Derived.Test.YtdhobdmhnocbgabGreatDoorSZwF
import Derived.Deep.AppendLies
namespace Go.Proofs.YtdhobdmhnocbgabGreatDoor
open Go.RowKit Zr
theorem Qga (l:List Ev):(upP l).length≤l.length:=by rw [←Q5H]; exact Qcq l
theorem Qm1 (l:List Ev):QhF (upP l):=by rw [←Q5H]; exact Qjz l
theorem Qf8 (l:List Ev):0≤Q2S l l.length∧Q2S l l.length≤2147483647:=by rw [←Q9L]; exact Q9K l
theorem QkP {w:World} {N n c:Nat} {a:Option Addr} {l:List RI} (h:w.ownsRow N 61 5 (.slice a n c) n (rcI l)):Src Tryz.prog 5 27 (.slice a n c) n (rcI l) w:=by
 rcases h.2 with ⟨h1,h2⟩ | ⟨g,cap,cur,h1,_⟩
 ·cases h1
  have e:rcI l=[]:=List.eq_nil_of_length_eq_zero (by simpa using h.1)
  rw [e]
  exact Src.ofNil _ Tryz.underlying27 0
 ·cases h1
  exact Src.ofSlice _ Tryz.underlying27 ⟨g,0,none⟩ n c _ h.1 (h.cells (g:=g) rfl) (fun v hv=>by
   unfold rcI at hv
   obtain ⟨x,_,hx⟩:=List.mem_flatMap.1 hv
   simp at hx
   rcases hx with rfl | rfl | rfl | rfl | rfl <;> rfl)
theorem Q7J (nm dt:ByteArray) (t:Int) (w:World):Calls Tryz.prog 61 #[.string nm,.int .i64 t,.string dt] w fun e w'=>e=.returned (.agg #[.string nm,.int .i64 t,.int .i64 1,.int .i64 30,.string dt])∧Below w.heap.size w w':=Q7I nm dt t w
set_option maxRecDepth 100000 in
set_option maxHeartbeats 4000000 in
theorem Q6d (l:List Ev) (a:Option Addr) (c N:Nat) (w:World) (hrow:RowAt w N a (evC l)) (hN:N≤w.heap.size) (hl:l.length≤16777216) (hz:Q2d l) :
  Calls Tryz.prog 31 #[.slice a l.length c] w fun e w'=>Q2u w (Q0I l) e w':=by
 have k1:=Qm3 l a c N w hrow hN (by omega) hz
 have K1:=Qa k1
 have k2:=fun W (hb:Below N w W) (hN:N≤W.heap.size)=>Qf9 l a c N W (hrow.below hb) hN (by omega) hz
 have K2:=Qa k2
 obtain ⟨hi0,hi1⟩:=Qf8 l
 have HOk:=Qa (Qm1 l)
 have hul:=Qga l
 obtain ⟨i0,hi,hz0,hz1,hz2⟩:=info_parts Tryz.info61
 have Hi:=Qa hi
 have Hz0:=Qa hz0
 have Hz1:=Qa hz1
 have Hz2:=Qa hz2
 clear hi hz0 hz1 hz2 k1 k2 hrow hz
 go_enter Tryz.func31,Tryz.ntmps31
 go_wp2_with fail
 refine (Q6 K1).mono ?_
 rintro e w1 ⟨a1,c1,rfl,o1,b1⟩
 have HRow1:=Qa (Q0u o1)
 have HB1:=Qa b1
 have hs1:w.heap.size≤w1.heap.size:=b1.size
 clear o1 b1 K1
 go_wp2_with fail
 refine (Q6 K2 _ ((Q6 HB1).mono hN) (Nat.le_trans hN hs1)).mono ?_
 rintro e w2 ⟨rfl,b2⟩
 have HRow2:=Qa (((Q6 HRow1).below b2))
 have HB2:=Qa ((Q6 HB1).trans (b2.mono hs1))
 have hs2:w1.heap.size≤w2.heap.size:=b2.size
 clear b2 K2 HRow1 HB1
 obtain ⟨sn,hsn⟩:=Int.eq_ofNat_of_zero_le hi0
 have hres:Q0I l=[Q04 Qm 6 (Q5U sn),Q04 Qm 2 Q0D]++(upP l).flatMap Q0y++(Q1Z (upP l) (upP l).length).1++(upP l).map Q1q:=by
  unfold Q0I
  rw [hsn,Int.toNat_natCast]
 rw [hsn] at hi1 ⊢
 have HRes:=Qa hres
 clear hsn hi0 hres
 generalize upP l=up at *
 have kq:∀ (n:Nat) (W:World),n < 4294967296→Calls Tryz.prog 50 #[.int .i64 (n:Int),.int .i64 4] W fun e w'=>e=.returned (.string (q4 n))∧Below W.heap.size W w':=fun n W hn=>Qin (n:Int) n W rfl hn
 have hz1:=Q2C sn
 have hz2:=Q2C 3600
 have hz3:=Q2C 600
 have hz4:=Q2C 86400
 have hz5:=Q2C 30
 have q1:=fun W=>kq sn W (by omega)
 have q2:=fun W=>kq 3600 W (by omega)
 have q3:=fun W=>kq 600 W (by omega)
 have q4':=fun W=>kq 86400 W (by omega)
 have q5:=fun W=>kq 30 W (by omega)
 obtain ⟨SO,hSO⟩:∃ s,Q5U sn=s:=⟨_,rfl⟩
 have hSO2:Q0D++Q89++q4 sn++q4 3600++q4 600++q4 86400++q4 30=SO:=hSO
 rw [hSO] at HRes
 generalize q4 sn=y1 at *
 generalize q4 3600=y2 at *
 generalize q4 600=y3 at *
 generalize q4 86400=y4 at *
 generalize q4 30=y5 at *
 have Q1:=Qa q1
 have Q2:=Qa q2
 have Q3:=Qa q3
 have Q4:=Qa q4'
 have Q5:=Qa q5
 have HSO:=Qa hSO2
 clear q1 q2 q3 q4' q5 kq hSO hSO2
 go_wp2_with fail
 refine (Q6 Q1 _).mono ?_
 rintro e w3 ⟨rfl,b3⟩
 have HRow3:=Qa ((Q6 HRow2).below (b3.mono (show w1.heap.size≤w2.heap.size by omega)))
 have HB3:=Qa ((Q6 HB2).trans (b3.mono (show w.heap.size≤w2.heap.size by omega)))
 have hs3:w1.heap.size≤w3.heap.size:=by have:=b3.size; omega
 clear b3 HRow2 HB2
 go_wp2_with fail
 refine (Q6 Q2 _).mono ?_
 rintro e w4 ⟨rfl,b4⟩
 have HRow4:=Qa ((Q6 HRow3).below (b4.mono (show w1.heap.size≤w3.heap.size by omega)))
 have HB4:=Qa ((Q6 HB3).trans (b4.mono (show w.heap.size≤w3.heap.size by omega)))
 have hs4:w1.heap.size≤w4.heap.size:=by have:=b4.size; omega
 clear b4 HRow3 HB3
 go_wp2_with fail
 refine (Q6 Q3 _).mono ?_
 rintro e w5 ⟨rfl,b5⟩
 have HRow5:=Qa ((Q6 HRow4).below (b5.mono (show w1.heap.size≤w4.heap.size by omega)))
 have HB5:=Qa ((Q6 HB4).trans (b5.mono (show w.heap.size≤w4.heap.size by omega)))
 have hs5:w1.heap.size≤w5.heap.size:=by have:=b5.size; omega
 clear b5 HRow4 HB4
 go_wp2_with fail
 refine (Q6 Q4 _).mono ?_
 rintro e w6 ⟨rfl,b6⟩
 have HRow6:=Qa ((Q6 HRow5).below (b6.mono (show w1.heap.size≤w5.heap.size by omega)))
 have HB6:=Qa ((Q6 HB5).trans (b6.mono (show w.heap.size≤w5.heap.size by omega)))
 have hs6:w1.heap.size≤w6.heap.size:=by have:=b6.size; omega
 clear b6 HRow5 HB5
 go_wp2_with fail
 refine (Q6 Q5 _).mono ?_
 rintro e w7 ⟨rfl,b7⟩
 have HRow7:=Qa ((Q6 HRow6).below (b7.mono (show w1.heap.size≤w6.heap.size by omega)))
 have HB7:=Qa ((Q6 HB6).trans (b7.mono (show w.heap.size≤w6.heap.size by omega)))
 have hs7:w1.heap.size≤w7.heap.size:=by have:=b7.size; omega
 clear b7 HRow6 HB6
 go_wp2_with fail
 have hcst:Q0D++Q89=(⟨#[2,110,115,3,115,118,99,4,109,101,115,104,0,5,97,100,109,105,110,3,115,118,99,4,109,101,115,104,0]⟩:ByteArray):=rfl
 rw [hcst] at HSO
 rw [Q6 HSO]
 clear hcst HSO
 refine (Q7I Qm SO 6 _).mono ?_
 rintro e w8 ⟨rfl,b8⟩
 have HRow8:=Qa ((Q6 HRow7).below (b8.mono (show w1.heap.size≤w7.heap.size by omega)))
 have HB8:=Qa ((Q6 HB7).trans (b8.mono (show w.heap.size≤w7.heap.size by omega)))
 have hs8:w1.heap.size≤w8.heap.size:=by have:=b8.size; omega
 clear b8 HRow7 HB7
 unfold Q55 Q04
 simp only
 go_wp2_with fail
 refine (Q7I Qm Q0D 2 _).mono ?_
 rintro e w9 ⟨rfl,b9⟩
 have HRow9:=Qa ((Q6 HRow8).below (b9.mono (show w1.heap.size≤w8.heap.size by omega)))
 have HB9:=Qa ((Q6 HB8).trans (b9.mono (show w.heap.size≤w8.heap.size by omega)))
 have hs9:w1.heap.size≤w9.heap.size:=by have:=b9.size; omega
 clear b9 HRow8 HB8
 unfold Q55 Q04
 simp only
 go_wp2_with fail
 obtain ⟨N9,hN9⟩:∃ N9,w9.heap.size=N9:=⟨_,rfl⟩
 have ho10:(w9.alloc (.cells #[.string Qm,.int .i64 6,.int .i64 1,.int .i64 30,.string SO,.string Qm,.int .i64 2,.int .i64 1,.int .i64 30,.string Q0D] 61)).ownsRow N9 61 5 (.slice (some ⟨N9,0,none⟩) 2 2) 2 (rcI [Q04 Qm 6 SO,Q04 Qm 2 Q0D]):=by
  refine ⟨rfl,.inr ⟨N9,2,_,rfl,Nat.le_refl _,by rw [←hN9]; exact heap_alloc_new _ _,Nat.le_refl _,by decide,rfl,rfl⟩⟩
 have hb10:=(Below.refl N9 w9).alloc (by omega) (.cells #[.string Qm,.int .i64 6,.int .i64 1,.int .i64 30,.string SO,.string Qm,.int .i64 2,.int .i64 1,.int .i64 30,.string Q0D] 61)
 have hs10:N9≤(w9.alloc (.cells #[.string Qm,.int .i64 6,.int .i64 1,.int .i64 30,.string SO,.string Qm,.int .i64 2,.int .i64 1,.int .i64 30,.string Q0D] 61)).heap.size:=by simp; omega
 rw [hN9] at hs9
 have HO10:=Qa ho10
 have HRow10:=Qa ((Q6 HRow9).below (hb10.mono hs9))
 have HB10:=Qa ((Q6 HB9).trans (hb10.mono (show w.heap.size≤N9 by omega)))
 rw [hN9]
 clear ho10 hb10 hN9 HRow9 HB9
 generalize w9.alloc (.cells #[.string Qm,.int .i64 6,.int .i64 1,.int .i64 30,.string SO,.string Qm,.int .i64 2,.int .i64 1,.int .i64 30,.string Q0D] 61)=w10 at *
 have HT:=Qa (Q77 up)
 have HTL:=Qa (Q52 up)
 have hw0:w.heap.size≤N9:=by omega
 obtain ⟨M1,hM1⟩:∃ M1,w1.heap.size=M1:=⟨_,rfl⟩
 rw [hM1] at HRow10 hs9
 clear hs1 hs2 hs3 hs4 hs5 hs6 hs7 hs8 hM1
 go_loopg [6,7] (up.length+1) (fun g vo vi w'=>∃ (j m:Nat) (ao:Option Addr) (co:Nat),vi=.int .i64 j∧j≤up.length∧g=up.length+1 - j∧vo=.slice ao m co∧m≤2+2 * j∧Hid (([Q04 Qm 6 SO,Q04 Qm 2 Q0D]++(up.take j).flatMap Q0y).length=m)∧Hid (w'.ownsRow N9 61 5 (.slice ao m co) m (rcI ([Q04 Qm 6 SO,Q04 Qm 2 Q0D]++(up.take j).flatMap Q0y)))∧Hid (Below N9 w10 w')∧N9≤w'.heap.size)
 case atStart=>exact ⟨0,2,_,_,rfl,Nat.zero_le _,rfl,rfl,Nat.le_refl _,Qa rfl,HO10,Qa (Below.refl _ _),hs10⟩
 case round =>
  obtain ⟨j,m,ao,co,rfl,hj,rfl,rfl,hm,HS,HO,HB,hs⟩:=hrel
  by_cases cj:j < up.length
  ·obtain ⟨b,o,rfl,hb,x0,x1,x2,x3,x4,x5,x6⟩:=Q2K ((Q6 HRow10).below ((Q6 HB).mono hs9)) j cj
   obtain ⟨s1,s2,s3,s4,s5,s6⟩:=Q6 HOk j cj
   have ht:=Q6 HT j cj
   generalize hX:[Q04 Qm 6 SO,Q04 Qm 2 Q0D]++(up.take j).flatMap Q0y=X at *
   generalize up[j]=k at *
   obtain ⟨kd,nd,ic,ad,pt,tx,al⟩:=k
   simp only at x0 x1 x2 x3 x4 x5 x6 s1 s2 s3 s4 s5 s6 ht
   have hRes:∀ Y,Y=X++Q0y ⟨kd,nd,ic,ad,pt,tx,al⟩→Y=[Q04 Qm 6 SO,Q04 Qm 2 Q0D]++(up.take (j+1)).flatMap Q0y:=fun Y h=>by rw [h,ht,←hX,List.append_assoc]
   have HRes2:=Qa hRes
   clear ht hRes hX
   obtain ⟨ty,hty⟩:∃ ty:Int,(if ad.size=16 then (28:Int) else 1)=ty:=⟨_,rfl⟩
   have k1:=fun (W:World)=>Q6H nd W (by omega)
   have K1:=Qa k1
   clear k1
   generalize hun:Qj nd=un at *
   have hN1:Q0y ⟨kd,nd,ic,ad,pt,tx,al⟩=Q04 un ty ad :: (if tx=⟨#[]⟩ then [] else [Q04 un 16 (one tx.size++tx)]):=by unfold Q0y; simp only; rw [hty,hun]
   have HN1:=Qa hN1
   clear hN1 hun
   have hcase:(((ad.size:Int) == 16)=true∧ty=28)∨(((ad.size:Int) == 16)=false∧ty=1):=by
    rcases s2 with q | q
    ·exact .inr ⟨beq_eq_false_iff_ne.2 (by omega),by rw [←hty,if_neg (by omega)]⟩
    ·exact .inl ⟨by rw [beq_iff_eq]; omega,by rw [←hty,if_pos q]⟩
   clear hty
   have hbN:b < wr.heap.size:=by omega
   have hj1:(j:Int) < (up.length:Int):=by omega
   have hj0:(0:Int)≤(j:Int):=by omega
   rcases hcase with ⟨d16,rfl⟩ | ⟨d16,rfl⟩
   ·skip
    go_upto_region 11 with fail
    go_region_held3 (fun u=>u.cell? ⟨b,o+j * 7+1,none⟩=some (.string nd)∧u.cell? ⟨b,o+j * 7+3,none⟩=some (.string ad)∧u.cell? ⟨b,o+j * 7+5,none⟩=some (.string tx)) (go_keep)
     (first
      | (go_at_call 62; refine (Q6 K1 _).mono ?_; rintro e w2 ⟨rfl,hb2'⟩; have hb2:=Q0x hb2'; have HO2:=Qa (Qk (Q6 HO) hb2); have HB2:=Qa ((Q6 HB).trans (hb2.mono hs)); have hs2:N9≤w2.heap.size:=Nat.le_trans hs hb2.size; have y1:=(hb2.cell (p:=⟨b,o+j * 7+1,none⟩) (show b < wr.heap.size by omega)).trans x1; have y3:=(hb2.cell (p:=⟨b,o+j * 7+3,none⟩) (show b < wr.heap.size by omega)).trans x3; have y5:=(hb2.cell (p:=⟨b,o+j * 7+5,none⟩) (show b < wr.heap.size by omega)).trans x5)
      | (go_at_call 61; refine (Q7J un ad 28 _).mono ?_; rintro e w3 ⟨rfl,hb3⟩; have HO3:=Qa (Qk (Q6 HO2) hb3); have HB3:=Qa ((Q6 HB2).trans (hb3.mono hs2)); have hs3:N9≤w3.heap.size:=Nat.le_trans hs2 hb3.size; have z1:=(hb3.cell (p:=⟨b,o+j * 7+1,none⟩) (show b < w2.heap.size by omega)).trans y1; have z3:=(hb3.cell (p:=⟨b,o+j * 7+3,none⟩) (show b < w2.heap.size by omega)).trans y3; have z5:=(hb3.cell (p:=⟨b,o+j * 7+5,none⟩) (show b < w2.heap.size by omega)).trans y5)
      | (refine step_append_lies _ rfl _ _ 27 rfl N9 61 i0 (.agg #[.string ⟨#[]⟩,.int .i64 0,.int .i64 0,.int .i64 0,.string ⟨#[]⟩]) 5 56 Tryz.underlying27 (Q6 Hi) (Q6 Hz0) (Q6 Hz1) (Q6 Hz2) rfl (by decide) (.slice ao m co) m (rcI X) (by rfl) ((Q6 HO3).alloc _) ⟨w3.heap.size,0,none⟩ 1 1 [.string un,.int .i64 28,.int .i64 1,.int .i64 30,.string ad] (by rfl) (by rfl) (Q0E _ _ _ _ _ _ _ _ rfl) Qa1 (by omega) (by unfold maxLen; omega) (by omega) (by simp; omega) _ rfl ?_; intro g4 e4 w4 hown4 hgrow4 hat4 hlt4; have hA4:=(Below.refl N9 w3).alloc hs3 (.cells #[.string un,.int .i64 28,.int .i64 1,.int .i64 30,.string ad] 61); have hB4:=hA4.trans (Qn ((Q6 HO3).alloc _) hgrow4 (Nat.le_trans hs3 hA4.size)); have v1:=(hB4.cell (p:=⟨b,o+j * 7+1,none⟩) (show b < N9 by omega)).trans z1; have v3:=(hB4.cell (p:=⟨b,o+j * 7+3,none⟩) (show b < N9 by omega)).trans z3; have v5:=(hB4.cell (p:=⟨b,o+j * 7+5,none⟩) (show b < N9 by omega)).trans z5))
    have HO4:=Qa hown4
    have HB4:=Qa ((Q6 HB3).trans hB4)
    have hs4:N9≤w4.heap.size:=Nat.le_trans hs3 hB4.size
    clear hown4 hgrow4 hat4 hlt4 hA4 hB4 hb2 hb2' hb3 x0 x1 x2 x3 x4 x5 x6 y1 y3 y5 z1 z3 z5
    by_cases ct:tx=⟨#[]⟩
    ·have e0:tx.toList.isEmpty=true:=(Q17 tx).2 ct
     have hn1:=Q6 HN1
     rw [if_pos ct] at hn1
     have HFin:=Qa (Q6 HRes2 _ (by rw [hn1]))
     clear hn1 ct
     go_wp2_with fail
     go_roundg (up.length+1 - (j+1))
     case measure=>omega
     case rel =>
      refine ⟨j+1,m+1,_,e4,by go_num,by omega,rfl,rfl,by omega,Qa ?_,Qa ?_,HB4,hs4⟩
      ·rw [←Q6 HFin,List.length_append,Q6 HS]; rfl
      ·rw [←Q6 HFin,Q2O]; exact Q6 HO4
    ·have e0:tx.toList.isEmpty=false:=by
      cases e:tx.toList.isEmpty with
      | false=>rfl
      | true=>exact absurd ((Q17 tx).1 e) ct
     have hn1:=Q6 HN1
     rw [if_neg ct] at hn1
     have HFin:=Qa (Q6 HRes2 _ (by rw [hn1]))
     have kh:=fun (W:World)=>Qim (tx.size:Int) tx.size W rfl (by omega)
     have ho1:(one tx.size).size=1:=rfl
     generalize one tx.size=ot at *
     have KH:=Qa kh
     clear hn1 ct kh
     have hadd:∀ W:World,(Op.stringOp .add ot tx).run Tryz.prog W=.ok (.string (ot++tx)) W:=fun W=>run_string_add_sum W ot tx (by omega)
     clear ho1
     go_wp2_with fail
     go_region_held3 (fun u=>u.cell? ⟨b,o+j * 7+1,none⟩=some (.string nd)∧u.cell? ⟨b,o+j * 7+5,none⟩=some (.string tx)) (go_keep)
      (first
       | (go_at_call 62; refine (Q6 K1 _).mono ?_; rintro e w5 ⟨rfl,hb5'⟩; have hb5:=Q0x hb5'; have HO5:=Qa (Qk (Q6 HO4) hb5); have HB5:=Qa ((Q6 HB4).trans (hb5.mono hs4)); have hs5:N9≤w5.heap.size:=Nat.le_trans hs4 hb5.size; have y1:=(hb5.cell (p:=⟨b,o+j * 7+1,none⟩) (show b < w4.heap.size by omega)).trans v1; have y5:=(hb5.cell (p:=⟨b,o+j * 7+5,none⟩) (show b < w4.heap.size by omega)).trans v5)
       | (go_at_call 50; refine (Q6 KH _).mono ?_; rintro e w6 ⟨rfl,hb6⟩; have HO6:=Qa (Qk (Q6 HO5) hb6); have HB6:=Qa ((Q6 HB5).trans (hb6.mono hs5)); have hs6:N9≤w6.heap.size:=Nat.le_trans hs5 hb6.size; have z1:=(hb6.cell (p:=⟨b,o+j * 7+1,none⟩) (show b < w5.heap.size by omega)).trans y1; have z5:=(hb6.cell (p:=⟨b,o+j * 7+5,none⟩) (show b < w5.heap.size by omega)).trans y5)
       | (go_at_call 61; refine (Q7J un (ot++tx) 16 _).mono ?_; rintro e w7' ⟨rfl,hb7⟩; have HO7:=Qa (Qk (Q6 HO6) hb7); have HB7:=Qa ((Q6 HB6).trans (hb7.mono hs6)); have hs7:N9≤w7'.heap.size:=Nat.le_trans hs6 hb7.size; have u1:=(hb7.cell (p:=⟨b,o+j * 7+1,none⟩) (show b < w6.heap.size by omega)).trans z1; have u5:=(hb7.cell (p:=⟨b,o+j * 7+5,none⟩) (show b < w6.heap.size by omega)).trans z5)
       | (refine step_append_lies _ rfl _ _ 27 rfl N9 61 i0 (.agg #[.string ⟨#[]⟩,.int .i64 0,.int .i64 0,.int .i64 0,.string ⟨#[]⟩]) 5 56 Tryz.underlying27 (Q6 Hi) (Q6 Hz0) (Q6 Hz1) (Q6 Hz2) rfl (by decide) (.slice (some ⟨g4,0,none⟩) (m+1) e4) (m+1) _ (by rfl) ((Q6 HO7).alloc _) ⟨w7'.heap.size,0,none⟩ 1 1 [.string un,.int .i64 16,.int .i64 1,.int .i64 30,.string (ot++tx)] (by rfl) (by rfl) (Q0E _ _ _ _ _ _ _ _ rfl) Qa1 (by omega) (by unfold maxLen; omega) (by omega) (by simp; omega) _ rfl ?_; intro g8 e8 w8' hown8 hgrow8 hat8 hlt8; have hA8:=(Below.refl N9 w7').alloc hs7 (.cells #[.string un,.int .i64 16,.int .i64 1,.int .i64 30,.string (ot++tx)] 61); have hB8:=hA8.trans (Qn ((Q6 HO7).alloc _) hgrow8 (Nat.le_trans hs7 hA8.size)); have t1:=(hB8.cell (p:=⟨b,o+j * 7+1,none⟩) (show b < N9 by omega)).trans u1; have t5:=(hB8.cell (p:=⟨b,o+j * 7+5,none⟩) (show b < N9 by omega)).trans u5))
     have HO8:=Qa hown8
     have HB8':=Qa ((Q6 HB7).trans hB8)
     have hs8':N9≤w8'.heap.size:=Nat.le_trans hs7 hB8.size
     clear hown8 hgrow8 hat8 hlt8 hA8 hB8 hb5 hb5' hb6 hb7 y1 y5 z1 z5 u1 u5 v1 v3 v5 t1 t5
     go_wp2_with fail
     go_roundg (up.length+1 - (j+1))
     case measure=>omega
     case rel =>
      refine ⟨j+1,m+1+1,_,e8,by go_num,by omega,rfl,rfl,by omega,Qa ?_,Qa ?_,HB8',hs8'⟩
      ·rw [←Q6 HFin,List.length_append,Q6 HS]; rfl
      ·rw [←Q6 HFin]
       have h9:=Q6 HO8
       have e9:X++[Q04 un 28 ad,Q04 un 16 (ot++tx)]=(X++[Q04 un 28 ad])++[Q04 un 16 (ot++tx)]:=by simp
       rw [e9,Q2O,Q2O]
       exact h9
   ·skip
    go_upto_region 11 with fail
    go_region_held3 (fun u=>u.cell? ⟨b,o+j * 7+1,none⟩=some (.string nd)∧u.cell? ⟨b,o+j * 7+3,none⟩=some (.string ad)∧u.cell? ⟨b,o+j * 7+5,none⟩=some (.string tx)) (go_keep)
     (first
      | (go_at_call 62; refine (Q6 K1 _).mono ?_; rintro e w2 ⟨rfl,hb2'⟩; have hb2:=Q0x hb2'; have HO2:=Qa (Qk (Q6 HO) hb2); have HB2:=Qa ((Q6 HB).trans (hb2.mono hs)); have hs2:N9≤w2.heap.size:=Nat.le_trans hs hb2.size; have y1:=(hb2.cell (p:=⟨b,o+j * 7+1,none⟩) (show b < wr.heap.size by omega)).trans x1; have y3:=(hb2.cell (p:=⟨b,o+j * 7+3,none⟩) (show b < wr.heap.size by omega)).trans x3; have y5:=(hb2.cell (p:=⟨b,o+j * 7+5,none⟩) (show b < wr.heap.size by omega)).trans x5)
      | (go_at_call 61; refine (Q7J un ad 1 _).mono ?_; rintro e w3 ⟨rfl,hb3⟩; have HO3:=Qa (Qk (Q6 HO2) hb3); have HB3:=Qa ((Q6 HB2).trans (hb3.mono hs2)); have hs3:N9≤w3.heap.size:=Nat.le_trans hs2 hb3.size; have z1:=(hb3.cell (p:=⟨b,o+j * 7+1,none⟩) (show b < w2.heap.size by omega)).trans y1; have z3:=(hb3.cell (p:=⟨b,o+j * 7+3,none⟩) (show b < w2.heap.size by omega)).trans y3; have z5:=(hb3.cell (p:=⟨b,o+j * 7+5,none⟩) (show b < w2.heap.size by omega)).trans y5)
      | (refine step_append_lies _ rfl _ _ 27 rfl N9 61 i0 (.agg #[.string ⟨#[]⟩,.int .i64 0,.int .i64 0,.int .i64 0,.string ⟨#[]⟩]) 5 56 Tryz.underlying27 (Q6 Hi) (Q6 Hz0) (Q6 Hz1) (Q6 Hz2) rfl (by decide) (.slice ao m co) m (rcI X) (by rfl) ((Q6 HO3).alloc _) ⟨w3.heap.size,0,none⟩ 1 1 [.string un,.int .i64 1,.int .i64 1,.int .i64 30,.string ad] (by rfl) (by rfl) (Q0E _ _ _ _ _ _ _ _ rfl) Qa1 (by omega) (by unfold maxLen; omega) (by omega) (by simp; omega) _ rfl ?_; intro g4 e4 w4 hown4 hgrow4 hat4 hlt4; have hA4:=(Below.refl N9 w3).alloc hs3 (.cells #[.string un,.int .i64 1,.int .i64 1,.int .i64 30,.string ad] 61); have hB4:=hA4.trans (Qn ((Q6 HO3).alloc _) hgrow4 (Nat.le_trans hs3 hA4.size)); have v1:=(hB4.cell (p:=⟨b,o+j * 7+1,none⟩) (show b < N9 by omega)).trans z1; have v3:=(hB4.cell (p:=⟨b,o+j * 7+3,none⟩) (show b < N9 by omega)).trans z3; have v5:=(hB4.cell (p:=⟨b,o+j * 7+5,none⟩) (show b < N9 by omega)).trans z5))
    have HO4:=Qa hown4
    have HB4:=Qa ((Q6 HB3).trans hB4)
    have hs4:N9≤w4.heap.size:=Nat.le_trans hs3 hB4.size
    clear hown4 hgrow4 hat4 hlt4 hA4 hB4 hb2 hb2' hb3 x0 x1 x2 x3 x4 x5 x6 y1 y3 y5 z1 z3 z5
    by_cases ct:tx=⟨#[]⟩
    ·have e0:tx.toList.isEmpty=true:=(Q17 tx).2 ct
     have hn1:=Q6 HN1
     rw [if_pos ct] at hn1
     have HFin:=Qa (Q6 HRes2 _ (by rw [hn1]))
     clear hn1 ct
     go_wp2_with fail
     go_roundg (up.length+1 - (j+1))
     case measure=>omega
     case rel =>
      refine ⟨j+1,m+1,_,e4,by go_num,by omega,rfl,rfl,by omega,Qa ?_,Qa ?_,HB4,hs4⟩
      ·rw [←Q6 HFin,List.length_append,Q6 HS]; rfl
      ·rw [←Q6 HFin,Q2O]; exact Q6 HO4
    ·have e0:tx.toList.isEmpty=false:=by
      cases e:tx.toList.isEmpty with
      | false=>rfl
      | true=>exact absurd ((Q17 tx).1 e) ct
     have hn1:=Q6 HN1
     rw [if_neg ct] at hn1
     have HFin:=Qa (Q6 HRes2 _ (by rw [hn1]))
     have kh:=fun (W:World)=>Qim (tx.size:Int) tx.size W rfl (by omega)
     have ho1:(one tx.size).size=1:=rfl
     generalize one tx.size=ot at *
     have KH:=Qa kh
     clear hn1 ct kh
     have hadd:∀ W:World,(Op.stringOp .add ot tx).run Tryz.prog W=.ok (.string (ot++tx)) W:=fun W=>run_string_add_sum W ot tx (by omega)
     clear ho1
     go_wp2_with fail
     go_region_held3 (fun u=>u.cell? ⟨b,o+j * 7+1,none⟩=some (.string nd)∧u.cell? ⟨b,o+j * 7+5,none⟩=some (.string tx)) (go_keep)
      (first
       | (go_at_call 62; refine (Q6 K1 _).mono ?_; rintro e w5 ⟨rfl,hb5'⟩; have hb5:=Q0x hb5'; have HO5:=Qa (Qk (Q6 HO4) hb5); have HB5:=Qa ((Q6 HB4).trans (hb5.mono hs4)); have hs5:N9≤w5.heap.size:=Nat.le_trans hs4 hb5.size; have y1:=(hb5.cell (p:=⟨b,o+j * 7+1,none⟩) (show b < w4.heap.size by omega)).trans v1; have y5:=(hb5.cell (p:=⟨b,o+j * 7+5,none⟩) (show b < w4.heap.size by omega)).trans v5)
       | (go_at_call 50; refine (Q6 KH _).mono ?_; rintro e w6 ⟨rfl,hb6⟩; have HO6:=Qa (Qk (Q6 HO5) hb6); have HB6:=Qa ((Q6 HB5).trans (hb6.mono hs5)); have hs6:N9≤w6.heap.size:=Nat.le_trans hs5 hb6.size; have z1:=(hb6.cell (p:=⟨b,o+j * 7+1,none⟩) (show b < w5.heap.size by omega)).trans y1; have z5:=(hb6.cell (p:=⟨b,o+j * 7+5,none⟩) (show b < w5.heap.size by omega)).trans y5)
       | (go_at_call 61; refine (Q7J un (ot++tx) 16 _).mono ?_; rintro e w7' ⟨rfl,hb7⟩; have HO7:=Qa (Qk (Q6 HO6) hb7); have HB7:=Qa ((Q6 HB6).trans (hb7.mono hs6)); have hs7:N9≤w7'.heap.size:=Nat.le_trans hs6 hb7.size; have u1:=(hb7.cell (p:=⟨b,o+j * 7+1,none⟩) (show b < w6.heap.size by omega)).trans z1; have u5:=(hb7.cell (p:=⟨b,o+j * 7+5,none⟩) (show b < w6.heap.size by omega)).trans z5)
       | (refine step_append_lies _ rfl _ _ 27 rfl N9 61 i0 (.agg #[.string ⟨#[]⟩,.int .i64 0,.int .i64 0,.int .i64 0,.string ⟨#[]⟩]) 5 56 Tryz.underlying27 (Q6 Hi) (Q6 Hz0) (Q6 Hz1) (Q6 Hz2) rfl (by decide) (.slice (some ⟨g4,0,none⟩) (m+1) e4) (m+1) _ (by rfl) ((Q6 HO7).alloc _) ⟨w7'.heap.size,0,none⟩ 1 1 [.string un,.int .i64 16,.int .i64 1,.int .i64 30,.string (ot++tx)] (by rfl) (by rfl) (Q0E _ _ _ _ _ _ _ _ rfl) Qa1 (by omega) (by unfold maxLen; omega) (by omega) (by simp; omega) _ rfl ?_; intro g8 e8 w8' hown8 hgrow8 hat8 hlt8; have hA8:=(Below.refl N9 w7').alloc hs7 (.cells #[.string un,.int .i64 16,.int .i64 1,.int .i64 30,.string (ot++tx)] 61); have hB8:=hA8.trans (Qn ((Q6 HO7).alloc _) hgrow8 (Nat.le_trans hs7 hA8.size)); have t1:=(hB8.cell (p:=⟨b,o+j * 7+1,none⟩) (show b < N9 by omega)).trans u1; have t5:=(hB8.cell (p:=⟨b,o+j * 7+5,none⟩) (show b < N9 by omega)).trans u5))
     have HO8:=Qa hown8
     have HB8':=Qa ((Q6 HB7).trans hB8)
     have hs8':N9≤w8'.heap.size:=Nat.le_trans hs7 hB8.size
     clear hown8 hgrow8 hat8 hlt8 hA8 hB8 hb5 hb5' hb6 hb7 y1 y5 z1 z5 u1 u5 v1 v3 v5 t1 t5
     go_wp2_with fail
     go_roundg (up.length+1 - (j+1))
     case measure=>omega
     case rel =>
      refine ⟨j+1,m+1+1,_,e8,by go_num,by omega,rfl,rfl,by omega,Qa ?_,Qa ?_,HB8',hs8'⟩
      ·rw [←Q6 HFin,List.length_append,Q6 HS]; rfl
      ·rw [←Q6 HFin]
       have h9:=Q6 HO8
       have e9:X++[Q04 un 1 ad,Q04 un 16 (ot++tx)]=(X++[Q04 un 1 ad])++[Q04 un 16 (ot++tx)]:=by simp
       rw [e9,Q2O,Q2O]
       exact h9
  ·have ej:j=up.length:=by omega
   subst ej
   have hx:=Q6 HO
   have hxl:=Q6 HS
   rw [List.take_length] at hx hxl
   generalize hX:[Q04 Qm 6 SO,Q04 Qm 2 Q0D]++up.flatMap Q0y=X at *
   have HXq:=Qa hX
   have HX:=Qa hx
   have HXL:=Qa hxl
   have HRow11:=Qa ((Q6 HRow10).below ((Q6 HB).mono hs9))
   have key:=Qac up a1 c1 M1 wr (Q6 HRow11) (Nat.le_trans hs9 hs) (by omega) (fun i hi=>by have:=Q6 HOk i hi; exact ⟨this.1,this.2.2.2.2.2⟩)
   have Key:=Qa key
   have hall:(Q1Z up up.length).1.length≤up.length:=by
    have:∀ k,(Q1Z up k).1.length≤k:=by
     intro k
     induction k with
     | zero=>exact Nat.le_refl _
     | succ k ih =>
      show (Q37 up (Q1Z up k)).1.length≤k+1
      unfold Q37
      split
      ·omega
      ·simp only
       split
       ·omega
       ·rw [List.length_append]; simp; omega
    exact this _
   generalize (Q1Z up up.length).1=A at *
   clear hx hxl hX HS HO key HT HTL
   go_wp2_with fail
   refine (Q6 Key).mono ?_
   rintro e w11 ⟨a11,c11,rfl,o11,b11⟩
   have HO11:=Qa (Qk (Q6 HX) b11)
   have HB11:=Qa ((Q6 HB).trans (b11.mono hs))
   have hs11:N9≤w11.heap.size:=Nat.le_trans hs b11.size
   have HC:=Qa o11
   clear o11 b11 Key
   go_upto_region 17 with (at_builtin; refine Qe _ rfl _ _ 27 27 rfl N9 61 i0 (.agg #[.string ⟨#[]⟩,.int .i64 0,.int .i64 0,.int .i64 0,.string ⟨#[]⟩]) 5 56 Tryz.underlying27 (Q6 Hi) (Q6 Hz0) (Q6 Hz1) (Q6 Hz2) rfl (.slice ao m co) m (rcI X) (by rfl) (Q6 HO11) (.slice a11 A.length c11) A.length (rcI A) (by rfl) (QkP (Q6 HC)) (by unfold maxLen; omega) (by omega) (by omega) ?_; intro a12 e12 w12 hown12 hgrow12 hat12)
   have hB12:=Qn (Q6 HO11) hgrow12 hs11
   have HO12:=Qa hown12
   have HB12:=Qa ((Q6 HB11).trans hB12)
   have hs12:N9≤w12.heap.size:=Nat.le_trans hs11 hB12.size
   have hmA:m+A.length≤67108864:=by omega
   have HL12:Hid ((X++A).length=m+A.length):=Qa (by rw [List.length_append,Q6 HXL])
   have HO13:Hid (w12.ownsRow N9 61 5 (.slice a12 (m+A.length) e12) (m+A.length) (rcI (X++A))):=Qa (by have:=Q6 HO12; rw [show rcI (X++A)=rcI X++rcI A by unfold rcI; rw [List.flatMap_append]]; exact this)
   clear hown12 hgrow12 hat12 hB12 HO12 HB11 HO11 HC HX HXL HB hs hs11 HRow11
   generalize hmq:m+A.length=mm at *
   have HT2:=Qa (map_take Q1q up)
   generalize hY:X++A=Y at *
   have HYq:=Qa hY
   clear hY hmq
   go_wp2_with fail
   go_loopg [6,10] (up.length+1) (fun g vo vi w'=>∃ (j:Nat) (ao:Option Addr) (co:Nat),vi=.int .i64 j∧j≤up.length∧g=up.length+1 - j∧vo=.slice ao (mm+j) co∧Hid ((Y++(up.take j).map Q1q).length=mm+j)∧Hid (w'.ownsRow N9 61 5 (.slice ao (mm+j) co) (mm+j) (rcI (Y++(up.take j).map Q1q)))∧Hid (Below N9 w10 w')∧N9≤w'.heap.size)
   case atStart=>exact ⟨0,_,_,rfl,Nat.zero_le _,rfl,rfl,Qa (by simpa using Q6 HL12),Qa (by simpa using Q6 HO13),HB12,hs12⟩
   case round =>
    clear HL12 HO13 HB12 hs12
    obtain ⟨j,ao,co,rfl,hj,rfl,rfl,HS,HO,HB,hs⟩:=hrel
    by_cases cj:j < up.length
    ·obtain ⟨b,o,rfl,hb,x0,x1,x2,x3,x4,x5,x6⟩:=Q2K ((Q6 HRow10).below ((Q6 HB).mono hs9)) j cj
     obtain ⟨s1,s2,s3,s4,s5,s6⟩:=Q6 HOk j cj
     have ht:=Q6 HT2 j cj
     generalize hZ:Y++(up.take j).map Q1q=Z at *
     generalize up[j]=k at *
     obtain ⟨kd,nd,ic,ad,pt,tx,al⟩:=k
     simp only at x0 x1 x2 x3 x4 x5 x6 s1 s2 s3 s4 s5 s6 ht
     obtain ⟨pn,rfl⟩:=Int.eq_ofNat_of_zero_le s3
     have hRes:Y++(up.take (j+1)).map Q1q=Z++[Q04 Q36 33 (q4 0++wd pn++Qj nd)]:=by
      rw [ht,←hZ,List.append_assoc]
      rfl
     have k0:=fun (W:World)=>Qin 0 0 W rfl (by omega)
     have k0':∀ W:World,Calls Tryz.prog 50 #[.int .i64 0,.int .i64 4] W fun e w'=>e=.returned (.string (q4 0))∧Below W.heap.size W w':=k0
     have k2:=fun (W:World)=>Q4t (pn:Int) pn W rfl (by omega)
     have k3:=fun (W:World)=>Q6H nd W (by omega)
     have z1:=Q2C 0
     have z2:=Q00 pn
     have z3:(Qj nd).size=1+nd.size+10:=by unfold Qj; rw [ByteArray.size_append,ByteArray.size_append]; rfl
     clear k0
     generalize q4 0=q at *
     generalize wd pn=wp at *
     generalize Qj nd=un at *
     have hadd1:∀ W:World,(Op.stringOp .add q wp).run Tryz.prog W=.ok (.string (q++wp)) W:=fun W=>run_string_add_sum W q wp (by omega)
     have hadd2:∀ W:World,(Op.stringOp .add (q++wp) un).run Tryz.prog W=.ok (.string (q++wp++un)) W:=fun W=>run_string_add_sum W (q++wp) un (by rw [ByteArray.size_append]; omega)
     have HRes2:=Qa hRes
     have K0:=Qa k0'
     have K2:=Qa k2
     have K3:=Qa k3
     clear hRes k0' k2 k3 z1 z2 z3 ht hZ
     have hbN:b < wr.heap.size:=by omega
     have hj1:(j:Int) < (up.length:Int):=by omega
     have hj0:(0:Int)≤(j:Int):=by omega
     go_wp2_with fail
     go_region_held3 (fun u=>u.cell? ⟨b,o+j * 7+1,none⟩=some (.string nd)∧u.cell? ⟨b,o+j * 7+4,none⟩=some (.int .i64 (pn:Int))) (go_keep)
      (first
       | (go_at_call_of 50 (Value.int IntKind.i64 0); refine (Q6 K0 _).mono ?_; rintro e v1 ⟨rfl,hb1'⟩; have hb1:=Q0x hb1'; have HO1:=Qa (Qk (Q6 HO) hb1); have HB1:=Qa ((Q6 HB).trans (hb1.mono hs)); have hs1:N9≤v1.heap.size:=Nat.le_trans hs hb1.size; have y1:=(hb1.cell (p:=⟨b,o+j * 7+1,none⟩) (show b < wr.heap.size by omega)).trans x1; have y4:=(hb1.cell (p:=⟨b,o+j * 7+4,none⟩) (show b < wr.heap.size by omega)).trans x4)
       | (go_at_call_of 50 (Value.int IntKind.i64 (pn:Int)); refine (Q6 K2 _).mono ?_; rintro e v2 ⟨rfl,hb2⟩; have HO2:=Qa (Qk (Q6 HO1) hb2); have HB2:=Qa ((Q6 HB1).trans (hb2.mono hs1)); have hs2:N9≤v2.heap.size:=Nat.le_trans hs1 hb2.size; have z1:=(hb2.cell (p:=⟨b,o+j * 7+1,none⟩) (show b < v1.heap.size by omega)).trans y1; have z4:=(hb2.cell (p:=⟨b,o+j * 7+4,none⟩) (show b < v1.heap.size by omega)).trans y4)
       | (go_at_call 62; refine (Q6 K3 _).mono ?_; rintro e v3 ⟨rfl,hb3⟩; have HO3:=Qa (Qk (Q6 HO2) hb3); have HB3:=Qa ((Q6 HB2).trans (hb3.mono hs2)); have hs3:N9≤v3.heap.size:=Nat.le_trans hs2 hb3.size; have t1:=(hb3.cell (p:=⟨b,o+j * 7+1,none⟩) (show b < v2.heap.size by omega)).trans z1; have t4:=(hb3.cell (p:=⟨b,o+j * 7+4,none⟩) (show b < v2.heap.size by omega)).trans z4)
       | (go_at_call 61; refine (Q7J Q36 (q++wp++un) 33 _).mono ?_; rintro e v4 ⟨rfl,hb4⟩; have HO4:=Qa (Qk (Q6 HO3) hb4); have HB4:=Qa ((Q6 HB3).trans (hb4.mono hs3)); have hs4:N9≤v4.heap.size:=Nat.le_trans hs3 hb4.size; have u1:=(hb4.cell (p:=⟨b,o+j * 7+1,none⟩) (show b < v3.heap.size by omega)).trans t1; have u4:=(hb4.cell (p:=⟨b,o+j * 7+4,none⟩) (show b < v3.heap.size by omega)).trans t4)
       | (refine step_append_lies _ rfl _ _ 27 rfl N9 61 i0 (.agg #[.string ⟨#[]⟩,.int .i64 0,.int .i64 0,.int .i64 0,.string ⟨#[]⟩]) 5 56 Tryz.underlying27 (Q6 Hi) (Q6 Hz0) (Q6 Hz1) (Q6 Hz2) rfl (by decide) (.slice ao (mm+j) co) (mm+j) (rcI Z) (by rfl) ((Q6 HO4).alloc _) ⟨v4.heap.size,0,none⟩ 1 1 [.string Q36,.int .i64 33,.int .i64 1,.int .i64 30,.string (q++wp++un)] (by rfl) (by rfl) (Q0E _ _ _ _ _ _ _ _ rfl) Qa1 (by omega) (by unfold maxLen; omega) (by omega) (by simp; omega) _ rfl ?_; intro g5 e5 v5 hown5 hgrow5 hat5 hlt5; have hA5:=(Below.refl N9 v4).alloc hs4 (.cells #[.string Q36,.int .i64 33,.int .i64 1,.int .i64 30,.string (q++wp++un)] 61); have hB5:=hA5.trans (Qn ((Q6 HO4).alloc _) hgrow5 (Nat.le_trans hs4 hA5.size)); have r1:=(hB5.cell (p:=⟨b,o+j * 7+1,none⟩) (show b < N9 by omega)).trans u1; have r4:=(hB5.cell (p:=⟨b,o+j * 7+4,none⟩) (show b < N9 by omega)).trans u4))
     have HO5:=Qa hown5
     have HB5:=Qa ((Q6 HB4).trans hB5)
     have hs5:N9≤v5.heap.size:=Nat.le_trans hs4 hB5.size
     clear hown5 hgrow5 hat5 hlt5 hA5 hB5 hb1 hb1' hb2 hb3 hb4 x0 x1 x2 x3 x4 x5 x6 y1 y4 z1 z4 t1 t4 u1 u4 r1 r4
     go_wp2_with fail
     go_roundg (up.length+1 - (j+1))
     case measure=>omega
     case rel =>
      refine ⟨j+1,_,e5,by go_num,by omega,rfl,rfl,Qa ?_,Qa ?_,HB5,hs5⟩
      ·rw [Q6 HRes2,List.length_append,Q6 HS]; rfl
      ·rw [Q6 HRes2,Q2O]; exact Q6 HO5
    ·have ej:j=up.length:=by omega
     subst ej
     have hw:Q2u w (Q0I l) (.returned (.slice ao (mm+up.length) co)) wr:=by
      have h1:=Q6 HS
      have h2:=Q6 HO
      rw [List.take_length] at h1 h2
      have e:Q0I l=Y++up.map Q1q:=by rw [Q6 HRes,←Q6 HYq,←Q6 HXq]
      rw [e]
      exact ⟨ao,co,by rw [h1],by rw [h1]; exact Q3e hw0 h2,(Q6 HB10).trans ((Q6 HB).mono hw0)⟩
     have HW:=Qa hw
     clear hw
     go_wp2_with fail
     go_ret
     exact Q6 HW
end Go.Proofs.YtdhobdmhnocbgabGreatDoor
