import Derived.Test.YtdhobdmhnocbgabGreatDoorSMeC
import Derived.Test.YtdhobdmhnocbgabGreatDoorSWellY
namespace Go.Proofs.YtdhobdmhnocbgabGreatDoor
open Go.RowKit Zr
def Ev.val (e:Ev):Value:=.agg #[.int .i64 e.kind,.string e.node,.int .i64 e.inc,.string e.addr,.int .i64 e.port,.string e.text,.string e.alias]
theorem Ql7 (c:Nat):c < 45∨c=45∨(45 < c∧c < 48)∨(48≤c∧c≤57)∨(57 < c∧c < 97)∨(97≤c∧c≤122)∨122 < c:=by omega
set_option maxRecDepth 100000 in
set_option maxHeartbeats 1000000 in
theorem Q9O (s:ByteArray) (w:World) (hs:s.size≤9223372036854775807) :
    Calls Tryz.prog 134 #[.string s] w fun e w'=>Q1V (Q2A s) e∧w'=w:=by
  go_enter Tryz.func134,Tryz.ntmps134
  go_wp2_with fail
  go_loop [3] (fun i=>∃ j:Nat,j≤s.size∧i=.int .i64 j∧Hid (∀ m,m < j→Q8j (bt s m))) (fun i=>s.size - (intOf i).toNat)
  case atStart=>exact ⟨0,Nat.zero_le _,rfl,Qa fun m hm=>by omega⟩
  case round =>
    obtain ⟨j,hj,rfl,HL⟩:=hrel
    by_cases cj:j < s.size
    · have hg:=Q10 s j cj
      obtain ⟨c,hc⟩:∃ c,bt s j=c:=⟨_,rfl⟩
      rw [hc] at hg
      have HC:=Qa hc
      clear hc
      rcases Ql7 c with h | h | h | h | h | h | h
      all_goals
        (first | have d1:decide ((97:Int)≤(c:Int))=true:=decide_eq_true (by omega) | have d1:decide ((97:Int)≤(c:Int))=false:=decide_eq_false (by omega))
        (first | have d2:decide ((c:Int)≤(122:Int))=true:=decide_eq_true (by omega) | have d2:decide ((c:Int)≤(122:Int))=false:=decide_eq_false (by omega))
        (first | have d3:decide ((48:Int)≤(c:Int))=true:=decide_eq_true (by omega) | have d3:decide ((48:Int)≤(c:Int))=false:=decide_eq_false (by omega))
        (first | have d4:decide ((c:Int)≤(57:Int))=true:=decide_eq_true (by omega) | have d4:decide ((c:Int)≤(57:Int))=false:=decide_eq_false (by omega))
        (first | have d5:((c:Int) != (45:Int))=true:=bne_iff_ne.2 (by omega) | have d5:((c:Int) != (45:Int))=false:=by rw [bne_eq_false_iff_eq]; omega)
        go_wp2_with fail
        first
          | (go_round
             case rel =>
               refine ⟨j+1,by omega,by go_num,Qa fun m hm=>?_⟩
               rcases Nat.lt_or_ge m j with k | k
               · exact Q6 HL m k
               · have:m=j:=by omega
                 subst this
                 rw [Q6 HC]
                 unfold Q8j
                 omega
             case measure=>simp [intOf]; omega)
          | (go_ret
             refine ⟨⟨_,rfl,⟨fun h=>by simp at h,fun h=>?_⟩⟩,rfl⟩
             have:=h.1 j cj
             rw [Q6 HC] at this
             unfold Q8j at this
             omega)
    · have e:j=s.size:=by omega
      subst e
      by_cases c1:1≤s.size
      · go_wp2_with fail
        go_ret
        refine ⟨⟨_,rfl,?_⟩,rfl⟩
        simp only [decide_eq_true_eq]
        exact ⟨fun h=>⟨Q6 HL,c1,by omega⟩,fun h=>by have:=h.2.2; omega⟩
      · go_wp2_with fail
        go_ret
        exact ⟨⟨_,rfl,⟨fun h=>by simp at h,fun h=>absurd h.2.1 c1⟩⟩,rfl⟩
theorem Q17 (s:ByteArray):s.toList.isEmpty=true↔s=⟨#[]⟩:=by
 rw [Q1c,decide_eq_true_eq]
 constructor
 ·exact fun h=>ByteArray.ext (Array.eq_empty_of_size_eq_zero h)
 ·intro h; subst h; rfl
set_option maxRecDepth 100000 in
set_option maxHeartbeats 2000000 in
theorem Q9E (e:Ev) (w:World) (h1:e.node.size≤9223372036854775807) (h2:e.alias.size≤9223372036854775807) (h3:e.addr.size≤9223372036854775807) (h4:e.text.size≤9223372036854775807) :
  Calls Tryz.prog 99 #[e.val] w fun r w'=>Q1V (Q2i e) r∧Below w.heap.size w w':=by
 have k1:=fun W=>Q9O e.node W h1
 have k2:=fun W=>Q9O e.alias W h2
 obtain ⟨G,hG⟩:∃ G,Q2i e=G:=⟨_,rfl⟩
 have hG':=hG
 unfold Q2i Q5h at hG'
 rw [hG]
 clear hG
 obtain ⟨kind,node,inc,addr,port,text,al⟩:=e
 simp only at h1 h2 h3 h4 k1 k2 hG'
 obtain ⟨Ln,hLn⟩:∃ L,Q2A node=L:=⟨_,rfl⟩
 obtain ⟨La,hLa⟩:∃ L,Q2A al=L:=⟨_,rfl⟩
 rw [hLn] at k1 hG'
 rw [hLa] at k2 hG'
 have HG:=Qa hG'
 have K1:=Qa k1
 have K2:=Qa k2
 clear k1 k2 hG' hLn hLa
 have hb:∀ O n,Below w.heap.size w ((w.alloc O).drewN n):=fun O n=>⟨rfl,rfl,rfl,by simp,fun k hk=>heap_alloc_old w O hk⟩
 have hb0:∀ O,Below w.heap.size w (w.alloc O):=fun O=>(Below.refl _ _).alloc (Nat.le_refl _) O
 have HB:=Qa hb
 have HB0:=Qa hb0
 clear hb hb0
 unfold Ev.val
 go_enter Tryz.func99,Tryz.ntmps99
 go_wp2_with fail
 refine (Q6 K1 _).mono ?_
 rintro e w1 ⟨⟨b,rfl,hbn⟩,rfl⟩
 have HN:=Qa hbn
 clear hbn K1
 cases b with
 | false =>
  go_wp2_with fail
  go_ret
  refine ⟨⟨_,rfl,⟨fun h=>by simp at h,fun h=>?_⟩⟩,Q6 HB0 _⟩
  rw [←Q6 HG] at h
  exact absurd ((Q6 HN).2 h.1) (by simp)
 | true =>
  by_cases c1:inc < 0
  ·go_wp2_with fail
   go_ret
   refine ⟨⟨_,rfl,⟨fun h=>by simp at h,fun h=>?_⟩⟩,Q6 HB0 _⟩
   rw [←Q6 HG] at h
   exact absurd h.2.1 (by omega)
  ·by_cases c2:2147483647 < inc
   ·go_wp2_with fail
    go_ret
    refine ⟨⟨_,rfl,⟨fun h=>by simp at h,fun h=>?_⟩⟩,Q6 HB0 _⟩
    rw [←Q6 HG] at h
    exact absurd h.2.2.1 (by omega)
   ·by_cases c3:kind=1
    ·subst c3
     by_cases c3:al=⟨#[]⟩
     ·have e3:al.toList.isEmpty=true:=(Q17 al).2 c3
      have AL:Hid (al=⟨#[]⟩∨La):=.inl c3
      clear c3
      by_cases c4:addr.size=4
      ·have d4:((addr.size:Int) == 4)=true:=by rw [beq_iff_eq]; omega
       have HAD:addr.size=4∨addr.size=16:=.inl c4
       by_cases c6:port < 0
       ·have d6:decide ((0:Int)≤port)=false:=decide_eq_false (by omega)
        go_wp2_with fail
        go_ret
        refine ⟨⟨_,rfl,⟨fun h=>by simp at h,fun h=>?_⟩⟩,Q6 HB0 _⟩
        rw [←Q6 HG] at h
        obtain ⟨_,_,_,h | ⟨_,ha,hd,hp1,hp2,ht⟩⟩:=h
        ·exact absurd h (by decide)
        ·exact absurd hp1 (by omega)
       ·have d6:decide ((0:Int)≤port)=true:=decide_eq_true (by omega)
        by_cases c7:65535 < port
        ·have d7:decide (port≤(65535:Int))=false:=decide_eq_false (by omega)
         go_wp2_with fail
         go_ret
         refine ⟨⟨_,rfl,⟨fun h=>by simp at h,fun h=>?_⟩⟩,Q6 HB0 _⟩
         rw [←Q6 HG] at h
         obtain ⟨_,_,_,h | ⟨_,ha,hd,hp1,hp2,ht⟩⟩:=h
         ·exact absurd h (by decide)
         ·exact absurd hp2 (by omega)
        ·have d7:decide (port≤(65535:Int))=true:=decide_eq_true (by omega)
         by_cases c8:text.size≤60
         ·have d8:decide ((text.size:Int)≤60)=true:=decide_eq_true (by omega)
          go_wp2_with fail
          go_ret
          refine ⟨⟨_,rfl,⟨fun _=>?_,fun _=>by simp⟩⟩,Q6 HB0 _⟩
          rw [←Q6 HG]
          exact ⟨(Q6 HN).1 (by simp),by omega,by omega,.inr ⟨by simp,Q6 AL,HAD,by omega,by omega,c8⟩⟩
         ·have d8:decide ((text.size:Int)≤60)=false:=decide_eq_false (by omega)
          go_wp2_with fail
          go_ret
          refine ⟨⟨_,rfl,⟨fun h=>by simp at h,fun h=>?_⟩⟩,Q6 HB0 _⟩
          rw [←Q6 HG] at h
          obtain ⟨_,_,_,h | ⟨_,ha,hd,hp1,hp2,ht⟩⟩:=h
          ·exact absurd h (by decide)
          ·exact absurd ht c8
      ·have d4:((addr.size:Int) == 4)=false:=beq_eq_false_iff_ne.2 (by omega)
       by_cases c5:addr.size=16
       ·have d5:((addr.size:Int) == 16)=true:=by rw [beq_iff_eq]; omega
        have HAD:addr.size=4∨addr.size=16:=.inr c5
        by_cases c6:port < 0
        ·have d6:decide ((0:Int)≤port)=false:=decide_eq_false (by omega)
         go_wp2_with fail
         go_ret
         refine ⟨⟨_,rfl,⟨fun h=>by simp at h,fun h=>?_⟩⟩,Q6 HB0 _⟩
         rw [←Q6 HG] at h
         obtain ⟨_,_,_,h | ⟨_,ha,hd,hp1,hp2,ht⟩⟩:=h
         ·exact absurd h (by decide)
         ·exact absurd hp1 (by omega)
        ·have d6:decide ((0:Int)≤port)=true:=decide_eq_true (by omega)
         by_cases c7:65535 < port
         ·have d7:decide (port≤(65535:Int))=false:=decide_eq_false (by omega)
          go_wp2_with fail
          go_ret
          refine ⟨⟨_,rfl,⟨fun h=>by simp at h,fun h=>?_⟩⟩,Q6 HB0 _⟩
          rw [←Q6 HG] at h
          obtain ⟨_,_,_,h | ⟨_,ha,hd,hp1,hp2,ht⟩⟩:=h
          ·exact absurd h (by decide)
          ·exact absurd hp2 (by omega)
         ·have d7:decide (port≤(65535:Int))=true:=decide_eq_true (by omega)
          by_cases c8:text.size≤60
          ·have d8:decide ((text.size:Int)≤60)=true:=decide_eq_true (by omega)
           go_wp2_with fail
           go_ret
           refine ⟨⟨_,rfl,⟨fun _=>?_,fun _=>by simp⟩⟩,Q6 HB0 _⟩
           rw [←Q6 HG]
           exact ⟨(Q6 HN).1 (by simp),by omega,by omega,.inr ⟨by simp,Q6 AL,HAD,by omega,by omega,c8⟩⟩
          ·have d8:decide ((text.size:Int)≤60)=false:=decide_eq_false (by omega)
           go_wp2_with fail
           go_ret
           refine ⟨⟨_,rfl,⟨fun h=>by simp at h,fun h=>?_⟩⟩,Q6 HB0 _⟩
           rw [←Q6 HG] at h
           obtain ⟨_,_,_,h | ⟨_,ha,hd,hp1,hp2,ht⟩⟩:=h
           ·exact absurd h (by decide)
           ·exact absurd ht c8
       ·have d5:((addr.size:Int) == 16)=false:=beq_eq_false_iff_ne.2 (by omega)
        go_wp2_with fail
        go_ret
        refine ⟨⟨_,rfl,⟨fun h=>by simp at h,fun h=>?_⟩⟩,Q6 HB0 _⟩
        rw [←Q6 HG] at h
        obtain ⟨_,_,_,h | ⟨_,ha,hd,hp1,hp2,ht⟩⟩:=h
        ·exact absurd h (by decide)
        ·rcases hd with hd | hd
         ·exact absurd hd c4
         ·exact absurd hd c5
     ·have e3:al.toList.isEmpty=false:=by
       cases e:al.toList.isEmpty with
       | false=>rfl
       | true=>exact absurd ((Q17 al).1 e) c3
      go_wp2_with fail
      refine (Q6 K2 _).mono ?_
      rintro e w1 ⟨⟨b,rfl,hba⟩,rfl⟩
      have HA:=Qa hba
      have C3:=Qa c3
      clear hba c3
      cases b with
      | false =>
       go_wp2_with fail
       all_goals go_ret
       all_goals
        refine ⟨⟨_,rfl,⟨fun h=>by simp at h,fun h=>?_⟩⟩,Q6 HB0 _⟩
        rw [←Q6 HG] at h
        obtain ⟨_,_,_,h | ⟨_,ha,hd,hp1,hp2,ht⟩⟩:=h
        ·exact absurd h (by decide)
        ·rcases ha with ha | ha
         ·exact absurd ha (Q6 C3)
         ·exact absurd ((Q6 HA).2 ha) (by simp)
      | true =>
       have AL:Hid (al=⟨#[]⟩∨La):=.inr ((Q6 HA).1 rfl)
       by_cases c4:addr.size=4
       ·have d4:((addr.size:Int) == 4)=true:=by rw [beq_iff_eq]; omega
        have HAD:addr.size=4∨addr.size=16:=.inl c4
        by_cases c6:port < 0
        ·have d6:decide ((0:Int)≤port)=false:=decide_eq_false (by omega)
         go_wp2_with fail
         go_ret
         refine ⟨⟨_,rfl,⟨fun h=>by simp at h,fun h=>?_⟩⟩,Q6 HB0 _⟩
         rw [←Q6 HG] at h
         obtain ⟨_,_,_,h | ⟨_,ha,hd,hp1,hp2,ht⟩⟩:=h
         ·exact absurd h (by decide)
         ·exact absurd hp1 (by omega)
        ·have d6:decide ((0:Int)≤port)=true:=decide_eq_true (by omega)
         by_cases c7:65535 < port
         ·have d7:decide (port≤(65535:Int))=false:=decide_eq_false (by omega)
          go_wp2_with fail
          go_ret
          refine ⟨⟨_,rfl,⟨fun h=>by simp at h,fun h=>?_⟩⟩,Q6 HB0 _⟩
          rw [←Q6 HG] at h
          obtain ⟨_,_,_,h | ⟨_,ha,hd,hp1,hp2,ht⟩⟩:=h
          ·exact absurd h (by decide)
          ·exact absurd hp2 (by omega)
         ·have d7:decide (port≤(65535:Int))=true:=decide_eq_true (by omega)
          by_cases c8:text.size≤60
          ·have d8:decide ((text.size:Int)≤60)=true:=decide_eq_true (by omega)
           go_wp2_with fail
           go_ret
           refine ⟨⟨_,rfl,⟨fun _=>?_,fun _=>by simp⟩⟩,Q6 HB0 _⟩
           rw [←Q6 HG]
           exact ⟨(Q6 HN).1 (by simp),by omega,by omega,.inr ⟨by simp,Q6 AL,HAD,by omega,by omega,c8⟩⟩
          ·have d8:decide ((text.size:Int)≤60)=false:=decide_eq_false (by omega)
           go_wp2_with fail
           go_ret
           refine ⟨⟨_,rfl,⟨fun h=>by simp at h,fun h=>?_⟩⟩,Q6 HB0 _⟩
           rw [←Q6 HG] at h
           obtain ⟨_,_,_,h | ⟨_,ha,hd,hp1,hp2,ht⟩⟩:=h
           ·exact absurd h (by decide)
           ·exact absurd ht c8
       ·have d4:((addr.size:Int) == 4)=false:=beq_eq_false_iff_ne.2 (by omega)
        by_cases c5:addr.size=16
        ·have d5:((addr.size:Int) == 16)=true:=by rw [beq_iff_eq]; omega
         have HAD:addr.size=4∨addr.size=16:=.inr c5
         by_cases c6:port < 0
         ·have d6:decide ((0:Int)≤port)=false:=decide_eq_false (by omega)
          go_wp2_with fail
          go_ret
          refine ⟨⟨_,rfl,⟨fun h=>by simp at h,fun h=>?_⟩⟩,Q6 HB0 _⟩
          rw [←Q6 HG] at h
          obtain ⟨_,_,_,h | ⟨_,ha,hd,hp1,hp2,ht⟩⟩:=h
          ·exact absurd h (by decide)
          ·exact absurd hp1 (by omega)
         ·have d6:decide ((0:Int)≤port)=true:=decide_eq_true (by omega)
          by_cases c7:65535 < port
          ·have d7:decide (port≤(65535:Int))=false:=decide_eq_false (by omega)
           go_wp2_with fail
           go_ret
           refine ⟨⟨_,rfl,⟨fun h=>by simp at h,fun h=>?_⟩⟩,Q6 HB0 _⟩
           rw [←Q6 HG] at h
           obtain ⟨_,_,_,h | ⟨_,ha,hd,hp1,hp2,ht⟩⟩:=h
           ·exact absurd h (by decide)
           ·exact absurd hp2 (by omega)
          ·have d7:decide (port≤(65535:Int))=true:=decide_eq_true (by omega)
           by_cases c8:text.size≤60
           ·have d8:decide ((text.size:Int)≤60)=true:=decide_eq_true (by omega)
            go_wp2_with fail
            go_ret
            refine ⟨⟨_,rfl,⟨fun _=>?_,fun _=>by simp⟩⟩,Q6 HB0 _⟩
            rw [←Q6 HG]
            exact ⟨(Q6 HN).1 (by simp),by omega,by omega,.inr ⟨by simp,Q6 AL,HAD,by omega,by omega,c8⟩⟩
           ·have d8:decide ((text.size:Int)≤60)=false:=decide_eq_false (by omega)
            go_wp2_with fail
            go_ret
            refine ⟨⟨_,rfl,⟨fun h=>by simp at h,fun h=>?_⟩⟩,Q6 HB0 _⟩
            rw [←Q6 HG] at h
            obtain ⟨_,_,_,h | ⟨_,ha,hd,hp1,hp2,ht⟩⟩:=h
            ·exact absurd h (by decide)
            ·exact absurd ht c8
        ·have d5:((addr.size:Int) == 16)=false:=beq_eq_false_iff_ne.2 (by omega)
         go_wp2_with fail
         go_ret
         refine ⟨⟨_,rfl,⟨fun h=>by simp at h,fun h=>?_⟩⟩,Q6 HB0 _⟩
         rw [←Q6 HG] at h
         obtain ⟨_,_,_,h | ⟨_,ha,hd,hp1,hp2,ht⟩⟩:=h
         ·exact absurd h (by decide)
         ·rcases hd with hd | hd
          ·exact absurd hd c4
          ·exact absurd hd c5
    ·have c3':(kind == 1)=false:=beq_eq_false_iff_ne.2 c3
     go_wp2_with fail
     go_ret
     refine ⟨⟨_,rfl,?_⟩,Q6 HB0 _⟩
     rw [←Q6 HG]
     simp only [beq_iff_eq]
     constructor
     ·exact fun h=>⟨(Q6 HN).1 (by simp),by omega,by omega,.inl h⟩
     ·rintro ⟨_,_,_,h | h⟩
      ·exact h
      ·exact absurd h.1 c3
set_option maxHeartbeats 1000000 in
theorem QiD (c:Nat) (w:World):Calls Tryz.prog 181 #[.int .u8 c] w fun e w'=>Q1V (Q8j c) e∧w'=w:=by
 rcases Ql7 c with h | h | h | h | h | h | h
 all_goals
  (first | have d1:decide ((97:Int)≤(c:Int))=true:=decide_eq_true (by omega) | have d1:decide ((97:Int)≤(c:Int))=false:=decide_eq_false (by omega))
  (first | have d2:decide ((c:Int)≤(122:Int))=true:=decide_eq_true (by omega) | have d2:decide ((c:Int)≤(122:Int))=false:=decide_eq_false (by omega))
  (first | have d3:decide ((48:Int)≤(c:Int))=true:=decide_eq_true (by omega) | have d3:decide ((48:Int)≤(c:Int))=false:=decide_eq_false (by omega))
  (first | have d4:decide ((c:Int)≤(57:Int))=true:=decide_eq_true (by omega) | have d4:decide ((c:Int)≤(57:Int))=false:=decide_eq_false (by omega))
  (first | have d5:((c:Int) == (45:Int))=false:=beq_eq_false_iff_ne.2 (by omega) | have d5:((c:Int) == (45:Int))=true:=by rw [beq_iff_eq]; omega)
  have H:=Qa h
  clear h
  go_enter Tryz.func181,Tryz.ntmps181
  go_wp2_with fail
  go_ret
  refine ⟨⟨_,rfl,?_⟩,rfl⟩
  have hh:=Q6 H
  unfold Q8j
  first
   | exact ⟨fun _=>by omega,fun _=>rfl⟩
   | exact ⟨fun h=>by simp at h,fun h=>by omega⟩
set_option maxRecDepth 100000 in
set_option maxHeartbeats 1000000 in
theorem QfK (s:ByteArray) (w:World) (hs:s.size≤9223372036854775807) :
  Calls Tryz.prog 159 #[.string s] w fun e w'=>Q1V (Q2A s) e∧w'=w:=by
 by_cases c0:s.size=0
 ·have e0:s.toList.isEmpty=true:=by rw [Q1c]; exact decide_eq_true c0
  have HC:Hid (¬ Q2A s):=Qa fun h=>by have:=h.2.1; omega
  clear c0
  go_enter Tryz.func159,Tryz.ntmps159
  go_wp2_with fail
  all_goals go_ret
  all_goals exact ⟨⟨_,rfl,⟨fun h=>by simp at h,fun h=>absurd h (Q6 HC)⟩⟩,rfl⟩
 ·have e0:s.toList.isEmpty=false:=by rw [Q1c]; exact decide_eq_false c0
  by_cases c1:15 < s.size
  ·have HC:Hid (¬ Q2A s):=Qa fun h=>by have:=h.2.2; omega
   go_enter Tryz.func159,Tryz.ntmps159
   go_wp2_with fail
   go_ret
   exact ⟨⟨_,rfl,⟨fun h=>by simp at h,fun h=>absurd h (Q6 HC)⟩⟩,rfl⟩
  ·go_enter Tryz.func159,Tryz.ntmps159
   go_wp2_with fail
   go_loop [3] (fun i=>∃ j:Nat,j≤s.size∧i=.int .i64 j∧Hid (∀ m,m < j→Q8j (bt s m))) (fun i=>s.size - (intOf i).toNat)
   case atStart=>exact ⟨0,Nat.zero_le _,rfl,Qa fun m hm=>by omega⟩
   case round =>
    obtain ⟨j,hj,rfl,HL⟩:=hrel
    by_cases cj:j < s.size
    ·have hg:=Q10 s j cj
     have HN:Hid (¬ Q8j (bt s j)→¬ Q2A s):=Qa fun h1 h2=>h1 (h2.1 j cj)
     have HY:Hid (Q8j (bt s j)→∀ m,m < j+1→Q8j (bt s m)):=Qa fun h1 m hm=>by
      rcases Nat.lt_or_ge m j with k | k
      ·exact Q6 HL m k
      ·have:m=j:=by omega
       subst this
       exact h1
     generalize bt s j=c at *
     go_wp2_with fail
     refine (QiD c _).mono ?_
     rintro e w' ⟨⟨b,rfl,hb⟩,rfl⟩
     have HB:=Qa hb
     clear hb
     cases b with
     | false =>
      go_wp2_with fail
      go_ret
      exact ⟨⟨_,rfl,⟨fun h=>by simp at h,fun h=>absurd h (Q6 HN fun h2=>absurd ((Q6 HB).2 h2) (by simp))⟩⟩,rfl⟩
     | true =>
      go_wp2_with fail
      go_round
      case rel=>exact ⟨j+1,by omega,by go_num,Qa (Q6 HY ((Q6 HB).1 (by simp)))⟩
      case measure=>simp [intOf]; omega
    ·have e:j=s.size:=by omega
     subst e
     go_wp2_with fail
     go_ret
     exact ⟨⟨_,rfl,⟨fun _=>⟨Q6 HL,by omega,by omega⟩,fun _=>rfl⟩⟩,rfl⟩
set_option maxRecDepth 100000 in
set_option maxHeartbeats 2000000 in
theorem Qlp (e:Ev) (w:World) (h2:e.alias.size≤9223372036854775807) (h3:e.addr.size≤9223372036854775807) (h4:e.text.size≤9223372036854775807) :
    Calls Tryz.prog 160 #[e.val] w fun r w'=>Q1V (Q5h e) r∧Below w.heap.size w w':=by
  have k2:=fun W=>QfK e.alias W h2
  obtain ⟨G,hG⟩:∃ G,Q5h e=G:=⟨_,rfl⟩
  have hG':=hG
  unfold Q5h at hG'
  rw [hG]
  clear hG
  obtain ⟨kind,node,inc,addr,port,text,al⟩:=e
  simp only at h2 h3 h4 k2 hG'
  obtain ⟨La,hLa⟩:∃ L,Q2A al=L:=⟨_,rfl⟩
  rw [hLa] at k2 hG'
  have HG:=Qa hG'
  have K2:=Qa k2
  clear k2 hG' hLa
  unfold Ev.val
  have HB0:Hid (∀ O,Below w.heap.size w (w.alloc O)):=Qa fun O=>(Below.refl _ _).alloc (Nat.le_refl _) O
  have HE:=Qa (Q17 al)
  have hcase:(((addr.size:Int) == 4)=true∧(addr.size=4∨addr.size=16))∨(((addr.size:Int) == 4)=false∧((addr.size:Int) == 16)=true∧(addr.size=4∨addr.size=16))∨(((addr.size:Int) == 4)=false∧((addr.size:Int) == 16)=false∧¬ (addr.size=4∨addr.size=16)):=by
    by_cases c4:addr.size=4
    · exact .inl ⟨by rw [beq_iff_eq]; omega,.inl c4⟩
    · by_cases c5:addr.size=16
      · exact .inr (.inl ⟨beq_eq_false_iff_ne.2 (by omega),by rw [beq_iff_eq]; omega,.inr c5⟩)
      · exact .inr (.inr ⟨beq_eq_false_iff_ne.2 (by omega),beq_eq_false_iff_ne.2 (by omega),by omega⟩)
  have hal:(al.toList.isEmpty=true∧al=⟨#[]⟩)∨(al.toList.isEmpty=false∧al≠⟨#[]⟩):=by
    cases e:al.toList.isEmpty with
    | true=>exact .inl ⟨rfl,(Q6 HE).1 e⟩
    | false=>exact .inr ⟨rfl,fun h=>by rw [(Q6 HE).2 h] at e; cases e⟩
  rcases hal with ⟨e1,e2⟩ | ⟨e1,e2⟩
  all_goals
    have E2:=Qa e2
    clear e2
    rcases hcase with ⟨d4,h5⟩ | ⟨d4,d5,h5⟩ | ⟨d4,d5,h5⟩
    all_goals
      have H5:=Qa h5
      clear h5
      go_enter Tryz.func160,Tryz.ntmps160
      go_wp2_with (go_at_call 159; refine (Q6 K2 _).mono ?_; rintro e w1 ⟨⟨b,rfl,hb⟩,rfl⟩)
      all_goals go_ret
      all_goals
        refine ⟨⟨_,rfl,?_⟩,Q6 HB0 _⟩
        rw [←Q6 HG]
        have u2:=Q6 E2
        have u5:=Q6 H5
        first
          | exact ⟨fun h=>by simp at h,fun h=>absurd h.2.1 u5⟩
          | exact ⟨fun h=>by simp at h,fun h=>by obtain ⟨_,_,h⟩:=h; omega⟩
          | (refine ⟨fun h=>⟨?_,u5,by omega,by omega,by omega⟩,fun h=>?_⟩
             · first | exact .inl u2 | exact .inr (hb.1 (by simpa using h))
             · first | rfl | exact hb.2 (h.1.resolve_left u2))
set_option maxRecDepth 100000 in
set_option maxHeartbeats 2000000 in
theorem Qlo (e:Ev) (w:World) (h1:e.node.size≤9223372036854775807) (h2:e.alias.size≤9223372036854775807) (h3:e.addr.size≤9223372036854775807) (h4:e.text.size≤9223372036854775807) :
    Calls Tryz.prog 127 #[e.val] w fun r w'=>Q1V (Q2i e) r∧Below w.heap.size w w':=by
  have k1:=fun W=>QfK e.node W h1
  have k2:=fun W=>Qlp e W h2 h3 h4
  obtain ⟨G,hG⟩:∃ G,Q2i e=G:=⟨_,rfl⟩
  have hG':=hG
  unfold Q2i at hG'
  rw [hG]
  clear hG
  obtain ⟨A,hA⟩:∃ A,Q5h e=A:=⟨_,rfl⟩
  rw [hA] at k2 hG'
  unfold Ev.val at k2 ⊢
  obtain ⟨kind,node,inc,addr,port,text,al⟩:=e
  simp only at h1 h2 h3 h4 k1 k2 hG' ⊢
  obtain ⟨Ln,hLn⟩:∃ L,Q2A node=L:=⟨_,rfl⟩
  rw [hLn] at k1 hG'
  have HG:=Qa hG'
  have K1:=Qa k1
  have K2:=Qa k2
  clear k1 k2 hG' hLn hA
  have HB0:Hid (∀ O,Below w.heap.size w (w.alloc O)):=Qa fun O=>(Below.refl _ _).alloc (Nat.le_refl _) O
  have HB1:Hid (∀ O w',Below (w.alloc O).heap.size (w.alloc O) w'→Below w.heap.size w w'):=Qa fun O w' h=>((Below.refl _ _).alloc (Nat.le_refl _) O).trans (h.mono (by simp))
  have hkind:((kind == 2)=true∧kind=2)∨((kind == 2)=false∧(kind == 1)=true∧kind≠2∧kind=1)∨((kind == 2)=false∧(kind == 1)=false∧kind≠2∧kind≠1):=by
    by_cases c4:kind=2
    · exact .inl ⟨by rw [beq_iff_eq]; omega,c4⟩
    · by_cases c5:kind=1
      · exact .inr (.inl ⟨beq_eq_false_iff_ne.2 (by omega),by rw [beq_iff_eq]; omega,c4,c5⟩)
      · exact .inr (.inr ⟨beq_eq_false_iff_ne.2 (by omega),beq_eq_false_iff_ne.2 (by omega),c4,c5⟩)
  rcases hkind with ⟨d4,h5⟩ | ⟨d4,d5,h5⟩ | ⟨d4,d5,h5⟩
  all_goals
    have H5:=Qa h5
    clear h5
    go_enter Tryz.func127,Tryz.ntmps127
    go_wp2_with fail
    refine (Q6 K1 _).mono ?_
    rintro e w1 ⟨⟨b,rfl,hb⟩,rfl⟩
    have HN:=Qa hb
    clear hb
    cases b
    · go_wp2_with fail
      go_ret
      refine ⟨⟨_,rfl,?_⟩,Q6 HB0 _⟩
      rw [←Q6 HG]
      exact ⟨fun h=>by simp at h,fun h=>absurd ((Q6 HN).2 h.1) (by simp)⟩
    · go_wp2_with (go_at_call 160; refine (Q6 K2 _).mono ?_; rintro e w1 ⟨⟨b,rfl,hb⟩,hbel⟩)
      all_goals go_ret
      all_goals
        have u5:=Q6 H5
        have un:=(Q6 HN).1 (by simp)
        first
          | (refine ⟨⟨_,rfl,?_⟩,Q6 HB0 _⟩
             rw [←Q6 HG]
             first
               | exact ⟨fun h=>by simp at h,fun h=>by obtain ⟨_,h⟩:=h; omega⟩
               | exact ⟨fun _=>⟨un,by omega,by omega,.inl u5⟩,fun _=>rfl⟩
               | exact ⟨fun h=>by simp at h,fun h=>by rcases h.2.2.2 with q | q; exact absurd q u5.1; exact absurd q.1 u5.2⟩)
          | (refine ⟨⟨_,rfl,?_⟩,Q6 HB1 _ _ hbel⟩
             rw [←Q6 HG]
             refine ⟨fun h=>⟨un,by omega,by omega,.inr ⟨u5.2,hb.1 (by simpa using h)⟩⟩,fun h=>?_⟩
             rcases h.2.2.2 with q | q
             · exact absurd q u5.1
             · simpa using hb.2 q.2)
theorem gtS (x y:ByteArray) (h:x≠y):((!Op.bytesLess x.toList y.toList && !(x.toList == y.toList))=true)↔ltS y x=true:=by
 rw [Q1C,decide_eq_false h]
 have e:Op.bytesLess x.toList y.toList=ltS x y:=rfl
 rw [e]
 cases q:ltS x y with
 | true=>rw [Q4k q]; simp
 | false =>
  cases q2:ltS y x with
  | true=>simp
  | false=>exact absurd (Q1T q q2) h
theorem QgG (x y:ByteArray):((!Op.bytesLess x.toList y.toList && !(x.toList == y.toList))=true)↔ltS y x=true:=by
 by_cases h:x=y
 ·subst h
  rw [Q1f]
  simp
 ·exact gtS x y h
theorem Q1i {x y:ByteArray} (h:x=y):(x.toList == y.toList)=true:=by rw [Q1C]; exact decide_eq_true h
theorem Q1w {x y:ByteArray} (h:x≠y):(x.toList == y.toList)=false:=by rw [Q1C]; exact decide_eq_false h
theorem Q4G {x y:Int} (h:x=y):(x != y)=false:=by rw [bne_eq_false_iff_eq]; exact h
theorem Q6v {x y:Int} (h:x≠y):(x != y)=true:=bne_iff_ne.2 h
theorem Qb9 {a b:Ev} (h:a.inc≠b.inc):Q19 a b↔b.inc < a.inc:=by unfold Q19 Q2G; rw [if_pos h]
theorem Q9o {a b:Ev} (h1:a.inc=b.inc) (h:a.kind≠b.kind):Q19 a b↔a.kind=2:=by
 unfold Q19 Q2G Q2X; rw [if_neg (by simpa using h1),if_pos h]
theorem Q9n {a b:Ev} (h1:a.inc=b.inc) (h2:a.kind=b.kind) (h:a.addr≠b.addr):Q19 a b↔ltS b.addr a.addr=true:=by
 unfold Q19 Q2G Q2X Q4a Q2G; rw [if_neg (by simpa using h1),if_neg (by simpa using h2),if_pos h]
theorem Q9p {a b:Ev} (h1:a.inc=b.inc) (h2:a.kind=b.kind) (h3:a.addr=b.addr) (h:a.port≠b.port):Q19 a b↔b.port < a.port:=by
 unfold Q19 Q2G Q2X Q4a Q2G Q6b Q2G; rw [if_neg (by simpa using h1),if_neg (by simpa using h2),if_neg (by simpa using h3),if_pos h]
theorem Q9q {a b:Ev} (h1:a.inc=b.inc) (h2:a.kind=b.kind) (h3:a.addr=b.addr) (h4:a.port=b.port) (h:a.text≠b.text):Q19 a b↔ltS b.text a.text=true:=by
 unfold Q19 Q2G Q2X Q4a Q2G Q6b Q2G Q7b Q2G; rw [if_neg (by simpa using h1),if_neg (by simpa using h2),if_neg (by simpa using h3),if_neg (by simpa using h4),if_pos h]
theorem Q8G {a b:Ev} (h1:a.inc=b.inc) (h2:a.kind=b.kind) (h3:a.addr=b.addr) (h4:a.port=b.port) (h5:a.text=b.text):Q19 a b↔ltS b.alias a.alias=true:=by
 unfold Q19 Q2G Q2X Q4a Q2G Q6b Q2G Q7b Q2G Q4h; rw [if_neg (by simpa using h1),if_neg (by simpa using h2),if_neg (by simpa using h3),if_neg (by simpa using h4),if_neg (by simpa using h5)]
theorem Qdr {a b:Ev} (h1:a.inc=b.inc) (h2:a.kind=b.kind) (h:a.kind=2):¬ Q16 a b:=by
 unfold Q16; rw [if_neg (by simpa using h1),if_neg (by simpa using h2),if_pos h]; exact id
theorem Qcj {a b:Ev} (h:a.inc=b.inc→a.kind=b.kind→a.kind≠2):Q16 a b↔Q19 a b:=by
 rw [Q7c]
 unfold QfT Q2G Q19 Q2G Qa8 Q2X QeS
 by_cases h1:a.inc=b.inc
 ·by_cases h2:a.kind=b.kind
  ·have:=h h1 h2
   rw [h2] at this
   simp [h1,h2,this]
  ·simp [h1,h2]
 ·simp [h1]
section
variable (w:World)
theorem QbM (O1 O2:Obj):Below w.heap.size w ((w.alloc O1).alloc O2):=((Below.refl _ _).alloc (Nat.le_refl _) O1).alloc (by simp) O2
end
set_option maxRecDepth 100000 in
set_option maxHeartbeats 2000000 in
theorem QjP (a b:Ev) (w:World):Calls Tryz.prog 162 #[a.val,b.val] w fun r w'=>Q1V (Q19 a b) r∧Below w.heap.size w w':=by
 have HB:Hid (∀ O1 O2,Below w.heap.size w ((w.alloc O1).alloc O2)):=Qa (QbM w)
 have b1:=@Qb9 a b
 have b2:=@Q9o a b
 have b3:=@Q9n a b
 have b4:=@Q9p a b
 have b5:=@Q9q a b
 have b6:=@Q8G a b
 generalize Q19 a b=G at *
 obtain ⟨k1,n1,i1,a1,p1,t1,l1⟩:=a
 obtain ⟨k2,n2,i2,a2,p2,t2,l2⟩:=b
 unfold Ev.val
 simp only at b1 b2 b3 b4 b5 b6 ⊢
 by_cases c1:i1=i2
 ·have e1:=Q4G c1
  by_cases c2:k1=k2
  ·have e2:=Q4G c2
   by_cases c3:a1=a2
   ·have e3:=Q1i c3
    by_cases c4:p1=p2
    ·have e4:=Q4G c4
     by_cases c5:t1=t2
     ·have e5:=Q1i c5
      have hg:=Qa ((QgG l1 l2).trans (b6 c1 c2 c3 c4 c5).symm)
      clear b1 b2 b3 b4 b5 b6 c1 c2 c3 c4 c5
      go_enter Tryz.func162,Tryz.ntmps162
      go_wp2_with fail
      go_ret
      exact ⟨⟨_,rfl,Q6 hg⟩,Q6 HB _ _⟩
     ·have e5:=Q1w c5
      have hg:=Qa ((QgG t1 t2).trans (b5 c1 c2 c3 c4 c5).symm)
      clear b1 b2 b3 b4 b5 b6 c1 c2 c3 c4 c5
      go_enter Tryz.func162,Tryz.ntmps162
      go_wp2_with fail
      go_ret
      refine ⟨⟨_,rfl,?_⟩,Q6 HB _ _⟩
      rw [←Q6 hg]
      simp [e5]
    ·have e4:=Q6v c4
     have hg:=Qa (b4 c1 c2 c3 c4)
     clear b1 b2 b3 b4 b5 b6 c1 c2 c3 c4
     go_enter Tryz.func162,Tryz.ntmps162
     go_wp2_with fail
     go_ret
     refine ⟨⟨_,rfl,?_⟩,Q6 HB _ _⟩
     rw [Q6 hg]
     simp
   ·have e3:=Q1w c3
    have hg:=Qa ((QgG a1 a2).trans (b3 c1 c2 c3).symm)
    clear b1 b2 b3 b4 b5 b6 c1 c2 c3
    go_enter Tryz.func162,Tryz.ntmps162
    go_wp2_with fail
    go_ret
    refine ⟨⟨_,rfl,?_⟩,Q6 HB _ _⟩
    rw [←Q6 hg]
    simp [e3]
  ·have e2:=Q6v c2
   have hg:=Qa (b2 c1 c2)
   clear b1 b2 b3 b4 b5 b6 c1 c2
   go_enter Tryz.func162,Tryz.ntmps162
   go_wp2_with fail
   go_ret
   refine ⟨⟨_,rfl,?_⟩,Q6 HB _ _⟩
   rw [Q6 hg]
   simp
 ·have e1:=Q6v c1
  have hg:=Qa (b1 c1)
  clear b1 b2 b3 b4 b5 b6 c1
  go_enter Tryz.func162,Tryz.ntmps162
  go_wp2_with fail
  go_ret
  refine ⟨⟨_,rfl,?_⟩,Q6 HB _ _⟩
  rw [Q6 hg]
  simp
end Go.Proofs.YtdhobdmhnocbgabGreatDoor
