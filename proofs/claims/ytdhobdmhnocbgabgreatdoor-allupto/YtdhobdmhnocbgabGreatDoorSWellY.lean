import Derived.Test.YtdhobdmhnocbgabGreatDoorSMsgs
import Derived.Test.YtdhobdmhnocbgabGreatDoorSRecW
import Derived.Test.YtdhobdmhnocbgabGreatDoorSRefD
import Derived.Test.YtdhobdmhnocbgabGreatDoorSParseX
namespace Go.Proofs.YtdhobdmhnocbgabGreatDoor
open Go.RowKit Zr
def Q1V (P:Prop) (e:Ending):Prop:=∃ b,e=.returned (.bool b)∧(b=true↔P)
theorem Q3M (n:Int) (w:World):Calls Tryz.prog 118 #[.int .i64 n] w fun e w'=>Q1V (Q1J n) e∧w'=w:=by
 by_cases c:0≤n∧n≤65535
 ·obtain ⟨c1,c2⟩:=c
  go_enter Tryz.func118,Tryz.ntmps118
  go_wp2_with fail
  go_ret
  exact ⟨⟨_,rfl,by unfold Q1J; simp [c1]; omega⟩,rfl⟩
 ·by_cases c1:0≤n
  ·have c2:¬ n≤65535:=fun h=>c ⟨c1,h⟩
   go_enter Tryz.func118,Tryz.ntmps118
   go_wp2_with fail
   go_ret
   exact ⟨⟨_,rfl,by unfold Q1J; simp [c1]; omega⟩,rfl⟩
  ·clear c
   go_enter Tryz.func118,Tryz.ntmps118
   go_wp2_with fail
   go_ret
   exact ⟨⟨_,rfl,by unfold Q1J; simp; omega⟩,rfl⟩
set_option maxHeartbeats 1000000 in
theorem Q9M (s:ByteArray) (w:World) (hs:s.size≤281474976710656) :
  Calls Tryz.prog 153 #[.string s] w fun e w'=>Q1V (Q09 s=true) e∧Below w.heap.size w w':=by
 generalize hR:w.heap.size=R
 have h0:∀ o,(w.alloc o).heap[R]? = some o:=fun o=>by rw [←hR]; exact heap_alloc_new _ _
 have h0':∀ o,Below R w (w.alloc o):=fun o=>(Below.refl _ _).alloc (Nat.le_of_eq hR.symm) _
 have H0:=Qa h0
 have H0':=Qa h0'
 clear h0 h0'
 cases hx:Q05 s 0 with
 | error x =>
  have hW:¬ (Q09 s=true):=by unfold Q09; rw [hx]; simp
  have HW:=Qa hW
  have Hx:=Qa hx
  clear hW hx
  go_enter Tryz.func153,Tryz.ntmps153
  go_wp2_with fail
  refine (Q9T R s 0 _ hs (Q6 H0 _) (by omega) (by omega) x Hx).mono ?_
  rintro e w1 ⟨hx0,rfl,hR1,hg1⟩
  obtain ⟨c0,c1,c2,z0,z1,z2⟩:=Q0K hR1
  have hx1:(x == 0)=false:=beq_eq_false_iff_ne.2 hx0
  have HG:=Qa hg1
  clear hR1 hg1 hx0
  go_wp2_with fail
  go_ret
  exact ⟨⟨_,rfl,by simp [Q6 HW]⟩,Q1k (Q6 H0' _) (Q6 HG) (by simp; omega) (Nat.le_refl _)⟩
 | ok z =>
  obtain ⟨t,k⟩:=z
  have HW:=Qa (QgS s t k hx)
  have Hx:=Qa hx
  clear hx
  go_enter Tryz.func153,Tryz.ntmps153
  go_wp2_with fail
  refine (Q9f R s 0 _ hs (Q6 H0 _) (by omega) (by omega) t k Hx).mono ?_
  rintro e w1 ⟨rfl,hR1,hg1⟩
  obtain ⟨c0,c1,c2,z0,z1,z2⟩:=Q0K hR1
  have HG:=Qa hg1
  clear hR1 hg1
  go_wp2_with fail
  go_ret
  exact ⟨⟨_,rfl,by rw [←Q6 HW,Q1C]; simp⟩,Q1k (Q6 H0' _) (Q6 HG) (by simp; omega) (Nat.le_refl _)⟩
set_option maxHeartbeats 1000000 in
theorem QeB (d:ByteArray) (t:Int) (w:World) (ht:0≤t) :
  Calls Tryz.prog 178 #[.string d,.int .i64 t] w fun e w'=>Q1V (Q1Y t.toNat d) e∧Below w.heap.size w w':=by
 obtain ⟨t,rfl⟩:=Int.eq_ofNat_of_zero_le ht
 rw [Int.toNat_natCast]
 by_cases cs:d.size≤65535
 ·have hW:Q1Y t d↔Q1n d 0 d.size t=some d:=⟨fun h=>h.2,fun h=>⟨cs,h⟩⟩
  have key:=fun w=>Q6U d d 0 d.size t w cs (by show _=_; rw [Nat.zero_add,Q13]) (by omega)
  have Key:=Qa key
  clear key
  cases hp:Q1n d 0 d.size t with
  | none =>
   rw [hp] at hW Key
   have HW:=Qa hW
   clear hW hp
   go_enter Tryz.func178,Tryz.ntmps178
   go_wp2_with fail
   refine (Q6 Key _).mono ?_
   rintro e w1 ⟨rfl,hb1⟩
   simp only [Option.getD_none,Option.isSome_none]
   go_wp2_with fail
   go_ret
   exact ⟨⟨_,rfl,by rw [Q6 HW]; simp⟩,hb1⟩
  | some y =>
   rw [hp] at hW Key
   have HW:=Qa hW
   clear hW hp
   go_enter Tryz.func178,Tryz.ntmps178
   go_wp2_with fail
   refine (Q6 Key _).mono ?_
   rintro e w1 ⟨rfl,hb1⟩
   simp only [Option.getD_some,Option.isSome_some]
   go_wp2_with fail
   go_ret
   exact ⟨⟨_,rfl,by rw [Q6 HW,Q1C]; simp⟩,hb1⟩
 ·have HW:Hid (¬ Q1Y t d):=fun h=>cs h.1
  go_enter Tryz.func178,Tryz.ntmps178
  go_wp2_with fail
  go_ret
  exact ⟨⟨_,rfl,by simp [Q6 HW]⟩,Below.refl _ _⟩
def QmV (q:QI):Value:=.agg #[.string q.name,.int .i64 q.ty,.int .i64 q.cl]
def Q55 (x:RI):Value:=.agg #[.string x.name,.int .i64 x.ty,.int .i64 x.cl,.int .i64 x.ttl,.string x.data]
theorem Qgp {w w1:World} {o:Obj} (hb:Below (w.alloc o).heap.size (w.alloc o) w1):w1.heap[w.heap.size]? = some o∧Below w.heap.size w w1 :=
 ⟨(hb.block w.heap.size (by simp)).trans (heap_alloc_new _ _),((Below.refl _ _).alloc (Nat.le_refl _) _).trans (hb.mono (by simp))⟩
set_option maxRecDepth 100000 in
set_option maxHeartbeats 1000000 in
theorem Qc4 (x:RI) (w:World) (hn:x.name.size≤281474976710656) :
  Calls Tryz.prog 154 #[Q55 x] w fun e w'=>Q1V (Q2l x) e∧Below w.heap.size w w':=by
 unfold Q55
 obtain ⟨nm,ty,cl,ttl,dt⟩:=x
 simp only at hn ⊢
 go_enter Tryz.func154,Tryz.ntmps154
 go_wp2_with fail
 refine (Q9M nm _ hn).mono ?_
 rintro e w1 ⟨⟨b,rfl,hb⟩,hbw⟩
 obtain ⟨hbox,hbel⟩:=Qgp hbw
 clear hbw
 have HB:=Qa hb
 clear hb
 obtain ⟨⟨b0,b1,b2,b3,b4⟩,y0,y1,y2,y3,y4⟩:=Q1a hbox
 have HX:=Qa hbox
 clear hbox
 cases b with
 | false =>
  go_wp2_with fail
  go_ret
  exact ⟨⟨_,rfl,⟨fun h=>by simp at h,fun h=>absurd (Q6 HB |>.2 h.1) (by simp)⟩⟩,hbel⟩
 | true =>
  go_wp2_with fail
  refine (Q3M ty _).mono ?_
  rintro e w2 ⟨⟨b,rfl,hb⟩,rfl⟩
  have HB2:=Qa hb
  clear hb
  cases b with
  | false =>
   go_wp2_with fail
   go_ret
   exact ⟨⟨_,rfl,⟨fun h=>by simp at h,fun h=>absurd (Q6 HB2 |>.2 h.2.1) (by simp)⟩⟩,hbel⟩
  | true =>
   go_wp2_with fail
   refine (Q3M cl _).mono ?_
   rintro e w2 ⟨⟨b,rfl,hb⟩,rfl⟩
   have HB3:=Qa hb
   clear hb
   cases b with
   | false =>
    go_wp2_with fail
    go_ret
    exact ⟨⟨_,rfl,⟨fun h=>by simp at h,fun h=>absurd (Q6 HB3 |>.2 h.2.2.1) (by simp)⟩⟩,hbel⟩
   | true =>
    by_cases c1:0≤ttl
    ·by_cases c2:ttl≤4294967295
     ·have hty:=(Q6 HB2).1 (by simp)
      have hty0:=hty.1
      go_wp2_with fail
      refine (QeB dt ty _ hty0).mono ?_
      rintro e w3 ⟨⟨b,rfl,hb⟩,hbw⟩
      have HB4:=Qa hb
      clear hb
      have c2':=Qa c2
      clear c2
      go_wp2_with fail
      go_ret
      refine ⟨⟨_,rfl,?_⟩,hbel.trans (hbw.mono hbel.size)⟩
      rw [Q6 HB4]
      exact ⟨fun h=>⟨(Q6 HB).1 (by simp),(Q6 HB2).1 (by simp),(Q6 HB3).1 (by simp),⟨c1,Q6 c2'⟩,h⟩,fun h=>h.2.2.2.2⟩
     ·go_wp2_with fail
      go_ret
      exact ⟨⟨_,rfl,⟨fun h=>by simp at h,fun h=>absurd (show ttl≤4294967295 from h.2.2.2.1.2) (by omega)⟩⟩,hbel⟩
    ·go_wp2_with fail
     go_ret
     exact ⟨⟨_,rfl,⟨fun h=>by simp at h,fun h=>absurd (show 0≤ttl from h.2.2.2.1.1) (by omega)⟩⟩,hbel⟩
def qcI (l:List QI):List Value:=l.flatMap fun q=>[.string q.name,.int .i64 q.ty,.int .i64 q.cl]
def rcI (l:List RI):List Value:=l.flatMap fun x=>[.string x.name,.int .i64 x.ty,.int .i64 x.cl,.int .i64 x.ttl,.string x.data]
theorem Q6c (x:RI) (l:List RI) (k:Nat):(rcI (x :: l))[k+5]? = (rcI l)[k]?:=by simp [rcI]
theorem Qa6 (x:QI) (l:List QI) (k:Nat):(qcI (x :: l))[k+3]? = (qcI l)[k]?:=by simp [qcI]
theorem QeT (l:List RI):∀ (i:Nat) (h:i < l.length),(rcI l)[i * 5]? = some (.string l[i].name)∧(rcI l)[i * 5+1]? = some (.int .i64 l[i].ty)∧(rcI l)[i * 5+2]? = some (.int .i64 l[i].cl)∧(rcI l)[i * 5+3]? = some (.int .i64 l[i].ttl)∧(rcI l)[i * 5+4]? = some (.string l[i].data):=by
 induction l with
 | nil=>intro i h; simp at h
 | cons x l ih =>
  intro i h
  cases i with
  | zero=>exact ⟨rfl,rfl,rfl,rfl,rfl⟩
  | succ i =>
   have e0:(i+1) * 5=i * 5+5:=by omega
   have e1:(i+1) * 5+1=i * 5+1+5:=by omega
   have e2:(i+1) * 5+2=i * 5+2+5:=by omega
   have e3:(i+1) * 5+3=i * 5+3+5:=by omega
   have e4:(i+1) * 5+4=i * 5+4+5:=by omega
   rw [e1,e2,e3,e4,e0,Q6c,Q6c,Q6c,Q6c,Q6c]
   exact ih i (by simpa using h)
theorem QeQ (l:List QI):∀ (i:Nat) (h:i < l.length),(qcI l)[i * 3]? = some (.string l[i].name)∧(qcI l)[i * 3+1]? = some (.int .i64 l[i].ty)∧(qcI l)[i * 3+2]? = some (.int .i64 l[i].cl):=by
 induction l with
 | nil=>intro i h; simp at h
 | cons x l ih =>
  intro i h
  cases i with
  | zero=>exact ⟨rfl,rfl,rfl⟩
  | succ i =>
   have e0:(i+1) * 3=i * 3+3:=by omega
   have e1:(i+1) * 3+1=i * 3+1+3:=by omega
   have e2:(i+1) * 3+2=i * 3+2+3:=by omega
   rw [e1,e2,e0,Qa6,Qa6,Qa6]
   exact ih i (by simpa using h)
def RowAt (w:World) (N:Nat) (a:Option Addr) (xs:List Value):Prop :=
 xs≠[]→∃ b o,a=some ⟨b,o,none⟩∧b < N∧∀ j u,xs[j]? = some u→w.cell? ⟨b,o+j,none⟩=some u
theorem RowAt.below {w w':World} {N:Nat} {a:Option Addr} {xs:List Value} (h:RowAt w N a xs) (hb:Below N w w'):RowAt w' N a xs:=by
 intro hx
 obtain ⟨b,o,h1,h2,h3⟩:=h hx
 exact ⟨b,o,h1,h2,fun j u hu=>(hb.cell (p:=⟨b,o+j,none⟩) h2).trans (h3 j u hu)⟩
theorem RowAt.mono {w:World} {N M:Nat} {a:Option Addr} {xs:List Value} (h:RowAt w N a xs) (hb:N≤M):RowAt w M a xs:=by
 intro hx
 obtain ⟨b,o,h1,h2,h3⟩:=h hx
 exact ⟨b,o,h1,by omega,h3⟩
theorem QlN {l:List QI} {i:Nat} (h:i < l.length):qcI l≠[]:=fun e=>by
 have:=(QeQ l i h).1
 rw [e] at this
 simp at this
theorem QlQ {l:List RI} {i:Nat} (h:i < l.length):rcI l≠[]:=fun e=>by
 have:=(QeT l i h).1
 rw [e] at this
 simp at this
theorem Q6T {w:World} {N:Nat} {a:Option Addr} {l:List QI} (h:RowAt w N a (qcI l)) (i:Nat) (hi:i < l.length):∃ b o,a=some ⟨b,o,none⟩∧b < N ∧
  w.cell? ⟨b,o+i * 3,none⟩=some (.string l[i].name)∧w.cell? ⟨b,o+i * 3+1,none⟩=some (.int .i64 l[i].ty)∧w.cell? ⟨b,o+i * 3+2,none⟩=some (.int .i64 l[i].cl):=by
 obtain ⟨b,o,h1,h2,h3⟩:=h (QlN hi)
 obtain ⟨q0,q1,q2⟩:=QeQ l i hi
 exact ⟨b,o,h1,h2,h3 _ _ q0,h3 _ _ q1,h3 _ _ q2⟩
theorem Q2R {w:World} {N:Nat} {a:Option Addr} {l:List RI} (h:RowAt w N a (rcI l)) (i:Nat) (hi:i < l.length):∃ b o,a=some ⟨b,o,none⟩∧b < N ∧
  w.cell? ⟨b,o+i * 5,none⟩=some (.string l[i].name)∧w.cell? ⟨b,o+i * 5+1,none⟩=some (.int .i64 l[i].ty)∧w.cell? ⟨b,o+i * 5+2,none⟩=some (.int .i64 l[i].cl) ∧
  w.cell? ⟨b,o+i * 5+3,none⟩=some (.int .i64 l[i].ttl)∧w.cell? ⟨b,o+i * 5+4,none⟩=some (.string l[i].data):=by
 obtain ⟨b,o,h1,h2,h3⟩:=h (QlQ hi)
 obtain ⟨q0,q1,q2,q3,q4⟩:=QeT l i hi
 exact ⟨b,o,h1,h2,h3 _ _ q0,h3 _ _ q1,h3 _ _ q2,h3 _ _ q3,h3 _ _ q4⟩
def Q4m (l:List QI):Prop:=∀ i (h:i < l.length),l[i].name.size≤281474976710656
def Q4O (l:List RI):Prop:=∀ i (h:i < l.length),l[i].name.size≤281474976710656∧l[i].data.size≤281474976710656
set_option maxRecDepth 100000 in
set_option maxHeartbeats 1000000 in
theorem Q8a (l:List QI) (a:Option Addr) (c N:Nat) (w:World) (hrow:RowAt w N a (qcI l)) (hN:N≤w.heap.size) (hz:Q4m l) :
  Calls Tryz.prog 119 #[.slice a l.length c] w fun e w'=>Q1V (Q7a l) e∧Below w.heap.size w w':=by
 have HRow:=Qa hrow
 have HZ:=Qa hz
 clear hrow hz
 by_cases cl:65535 < l.length
 ·go_enter Tryz.func119,Tryz.ntmps119
  go_wp2_with fail
  go_ret
  exact ⟨⟨_,rfl,⟨fun h=>by simp at h,fun h=>absurd h.1 (by omega)⟩⟩,Below.refl _ _⟩
 ·go_enter Tryz.func119,Tryz.ntmps119
  go_wp2_with fail
  go_loopw [3] (fun i w'=>∃ j:Nat,j≤l.length∧i=.int .i64 j∧Hid (Below w.heap.size w w')∧Hid (∀ k (h:k < l.length),k < j→Q2J l[k])) (fun i _=>l.length - (intOf i).toNat)
  case atStart=>exact ⟨0,Nat.zero_le _,rfl,Below.refl _ _,fun k _ hk=>by omega⟩
  case round =>
   obtain ⟨j,hj,rfl,hB,hq⟩:=hrel
   by_cases cj:j < l.length
   ·obtain ⟨b,o,rfl,hb,x0,x1,x2⟩:=Q6T ((Q6 HRow).below ((Q6 hB).mono hN)) j cj
    have hsz:=Q6 HZ j cj
    have HQ:Hid (Q2J l[j]↔Q09 l[j].name=true∧Q1J l[j].ty∧Q1J l[j].cl):=Iff.rfl
    have HNo:Hid (¬ Q2J l[j]→¬ Q7a l):=fun h1 h2=>h1 (h2.2 j cj)
    have HYes:Hid (Q2J l[j]→∀ k (h:k < l.length),k < j+1→Q2J l[k]):=fun h1 k hk hkj=>by
     by_cases e:k=j
     ·subst e; exact h1
     ·exact Q6 hq k hk (by omega)
    generalize Q2J l[j]=Q at *
    generalize l[j].name=nm at *
    generalize l[j].ty=ty at *
    generalize l[j].cl=kl at *
    go_wp2_with fail
    refine (Q9M nm _ hsz).mono ?_
    rintro e w1 ⟨⟨v,rfl,hv⟩,hb1⟩
    have y1:=(hb1.cell (p:=⟨b,o+j * 3+1,none⟩) (by have:=(Q6 hB).size; show b < _; omega)).trans x1
    have y2:=(hb1.cell (p:=⟨b,o+j * 3+2,none⟩) (by have:=(Q6 hB).size; show b < _; omega)).trans x2
    have HV:=Qa hv
    clear hv x0 x1 x2
    cases v with
    | false =>
     go_wp2_with fail
     go_ret
     exact ⟨⟨_,rfl,⟨fun h=>by simp at h,fun h=>absurd h (Q6 HNo fun h2=>absurd ((Q6 HV).2 ((Q6 HQ).1 h2).1) (by simp))⟩⟩,(Q6 hB).trans (hb1.mono (Q6 hB).size)⟩
    | true =>
     go_wp2_with fail
     refine (Q3M ty _).mono ?_
     rintro e w2 ⟨⟨v,rfl,hv⟩,rfl⟩
     have HV2:=Qa hv
     clear hv
     cases v with
     | false =>
      go_wp2_with fail
      go_ret
      exact ⟨⟨_,rfl,⟨fun h=>by simp at h,fun h=>absurd h (Q6 HNo fun h2=>absurd ((Q6 HV2).2 ((Q6 HQ).1 h2).2.1) (by simp))⟩⟩,(Q6 hB).trans (hb1.mono (Q6 hB).size)⟩
     | true =>
      go_wp2_with fail
      refine (Q3M kl _).mono ?_
      rintro e w2 ⟨⟨v,rfl,hv⟩,rfl⟩
      have HV3:=Qa hv
      clear hv
      cases v with
      | false =>
       go_wp2_with fail
       go_ret
       exact ⟨⟨_,rfl,⟨fun h=>by simp at h,fun h=>absurd h (Q6 HNo fun h2=>absurd ((Q6 HV3).2 ((Q6 HQ).1 h2).2.2) (by simp))⟩⟩,(Q6 hB).trans (hb1.mono (Q6 hB).size)⟩
      | true =>
       have hyes:=Q6 HYes ((Q6 HQ).2 ⟨(Q6 HV).1 (by simp),(Q6 HV2).1 (by simp),(Q6 HV3).1 (by simp)⟩)
       have HY:=Qa hyes
       clear hyes
       go_wp2_with fail
       go_roundw
       case rel=>exact ⟨j+1,by omega,by go_num,(Q6 hB).trans (hb1.mono (Q6 hB).size),HY⟩
       case measure=>simp [intOf]; omega
   ·go_wp2_with fail
    go_ret
    exact ⟨⟨_,rfl,⟨fun _=>⟨by omega,fun k hk=>Q6 hq k hk (by omega)⟩,fun _=>rfl⟩⟩,Q6 hB⟩
def QeG (l:List RI) (part j:Nat):Prop:=part=2∧∀ k (h:k < l.length),k < j→l[k].ty≠41
theorem Qko (l:List RI) (part j:Nat) (hj:j < l.length):Q5S (l.take j) l[j] part↔l[j].ty=41∧(¬ QeG l part j∨l[j].name≠⟨#[0]⟩):=by
 unfold Q5S QeG
 refine and_congr_right fun _=>?_
 constructor
 ·intro h
  rcases h with ⟨y,hy,h2⟩ | h | h
  ·left
   intro ⟨_,h3⟩
   obtain ⟨k,hk,e⟩:=List.getElem_of_mem hy
   rw [List.length_take] at hk
   rw [List.getElem_take] at e
   exact h3 k (by omega) (by omega) (by rw [e]; exact h2)
  ·exact .inl fun h2=>h h2.1
  ·exact .inr h
 ·intro h
  rcases h with h | h
  ·by_cases c:part=2
   ·left
    false_or_by_contra
    rename_i h2
    refine h ⟨c,fun k hk hkj e=>h2 ⟨l[k],?_,e⟩⟩
    rw [List.mem_iff_getElem]
    exact ⟨k,by rw [List.length_take]; omega,by rw [List.getElem_take]⟩
   ·exact .inr (.inl c)
  ·exact .inr (.inr h)
theorem QiI (l:List RI) (part j:Nat) (hj:j < l.length):QeG l part (j+1)↔QeG l part j∧l[j].ty≠41:=by
 unfold QeG
 constructor
 ·intro ⟨h1,h2⟩
  exact ⟨⟨h1,fun k hk hkj=>h2 k hk (by omega)⟩,h2 j hj (by omega)⟩
 ·intro ⟨⟨h1,h2⟩,h3⟩
  refine ⟨h1,fun k hk hkj=>?_⟩
  by_cases e:k=j
  ·subst e; exact h3
  ·exact h2 k hk (by omega)
theorem Q6e (s:ByteArray):(s.toList == [0])=decide (s=⟨#[0]⟩):=by
 have h0:(⟨#[0]⟩:ByteArray).toList=[0]:=by rw [ByteArray.toList_eq]
 have h1:=Q1C s ⟨#[0]⟩
 rw [h0] at h1
 exact h1
set_option maxRecDepth 100000 in
set_option maxHeartbeats 2000000 in
theorem Q4n (l:List RI) (part:Nat) (ex:Bool) (hex:ex=true↔part=2) (a:Option Addr) (c N:Nat) (w:World) (hrow:RowAt w N a (rcI l)) (hN:N≤w.heap.size) (hz:Q4O l) :
  Calls Tryz.prog 120 #[.slice a l.length c,.bool ex] w fun e w'=>Q1V (Q1H l part) e∧Below w.heap.size w w':=by
 have HRow:=Qa hrow
 have HZ:=Qa hz
 have HEx:=Qa hex
 clear hrow hz hex
 by_cases cl:65535 < l.length
 ·go_enter Tryz.func120,Tryz.ntmps120
  go_wp2_with fail
  go_ret
  exact ⟨⟨_,rfl,⟨fun h=>by simp at h,fun h=>absurd h.1 (by omega)⟩⟩,Below.refl _ _⟩
 ·go_enter Tryz.func120,Tryz.ntmps120
  go_wp2_with fail
  go_loopw [5,6] (fun m i w'=>∃ (j:Nat) (mb:Bool),j≤l.length∧i=.int .i64 j∧m=.bool mb∧Hid (mb=true↔QeG l part j)∧Hid (Below w.heap.size w w')∧Hid (∀ k (h:k < l.length),k < j→Q2l l[k]∧¬ Q5S (l.take k) l[k] part)) (fun _ i _=>l.length - (intOf i).toNat)
  case atStart=>exact ⟨0,ex,Nat.zero_le _,rfl,rfl,⟨fun h=>⟨(Q6 HEx).1 h,fun k _ hk=>by omega⟩,fun h=>(Q6 HEx).2 h.1⟩,Below.refl _ _,fun k _ hk=>by omega⟩
  case round =>
   obtain ⟨j,mb,hj,rfl,rfl,hm,hB,hq⟩:=hrel
   by_cases cj:j < l.length
   ·obtain ⟨b,o,rfl,hb,x0,x1,x2,x3,x4⟩:=Q2R ((Q6 HRow).below ((Q6 hB).mono hN)) j cj
    have hsz:=(Q6 HZ j cj).1
    have hmis:=Qko l part j cj
    have hmay:=QiI l part j cj
    have HNo:Hid (¬ (Q2l l[j]∧¬ Q5S (l.take j) l[j] part)→¬ Q1H l part):=fun h1 h2=>h1 (h2.2 j cj)
    have HYes:Hid (Q2l l[j]∧¬ Q5S (l.take j) l[j] part→∀ k (h:k < l.length),k < j+1→Q2l l[k]∧¬ Q5S (l.take k) l[k] part):=fun h1 k hk hkj=>by
     by_cases e:k=j
     ·subst e; exact h1
     ·exact Q6 hq k hk (by omega)
    have HMis:=Qa hmis
    have HMay:=Qa hmay
    clear hmis hmay
    generalize Q5S (l.take j) l[j] part=M at *
    have key:=fun w=>Qc4 l[j] w hsz
    unfold Q55 at key
    have Key:=Qa key
    clear key
    generalize l[j]=x at *
    obtain ⟨nm,ty,kl,ttl,dt⟩:=x
    simp only at *
    have HRef:Hid (∀ P:Prop,P→P):=fun _ h=>h
    go_wp2_with fail
    refine (Q6 Key _).mono ?_
    rintro e w1 ⟨⟨v,rfl,hv⟩,hb1⟩
    have y0:=(hb1.cell (p:=⟨b,o+j * 5,none⟩) (by have:=(Q6 hB).size; show b < _; omega)).trans x0
    have y1:=(hb1.cell (p:=⟨b,o+j * 5+1,none⟩) (by have:=(Q6 hB).size; show b < _; omega)).trans x1
    have HV:=Qa hv
    have hbb:=(Q6 hB).trans (hb1.mono (Q6 hB).size)
    have HBB:=Qa hbb
    clear hv x0 x1 x2 x3 x4 hbb Key
    cases v with
    | false =>
     go_wp2_with fail
     go_ret
     exact ⟨⟨_,rfl,⟨fun h=>by simp at h,fun h=>absurd h (Q6 HNo fun h2=>absurd ((Q6 HV).2 h2.1) (by simp))⟩⟩,Q6 HBB⟩
    | true =>
     by_cases ct:ty=41
     ·subst ct
      cases mb with
      | false =>
       go_wp2_with fail
       go_ret
       exact ⟨⟨_,rfl,⟨fun h=>by simp at h,fun h=>absurd h (Q6 HNo fun h2=>h2.2 ((Q6 HMis).2 ⟨by simp,.inl fun h3=>absurd ((Q6 hm).2 h3) (by simp)⟩))⟩⟩,Q6 HBB⟩
      | true =>
       by_cases cr:nm=⟨#[0]⟩
       ·have he:(nm.toList == [0])=true:=by rw [Q6e]; simp [cr]
        have he2:(nm.toList != [0])=false:=by rw [bne,he]; rfl
        have HCr:=Qa cr
        clear cr
        have hyes:=Q6 HYes ⟨(Q6 HV).1 (by simp),fun h=>by
         rcases ((Q6 HMis).1 h).2 with h3 | h3
         ·exact h3 ((Q6 hm).1 rfl)
         ·exact h3 (Q6 HCr)⟩
        have HY:=Qa hyes
        clear hyes
        go_wp2_with fail
        go_roundw
        case rel=>exact ⟨j+1,false,by omega,by go_num,rfl,⟨fun h=>by simp at h,fun h=>absurd (by simp) ((Q6 HMay).1 h).2⟩,HBB,HY⟩
        case measure=>simp [intOf]; omega
       ·have he:(nm.toList == [0])=false:=by rw [Q6e]; simp [cr]
        have he2:(nm.toList != [0])=true:=by rw [bne,he]; rfl
        have HCr:=Qa cr
        clear cr
        go_wp2_with fail
        go_ret
        exact ⟨⟨_,rfl,⟨fun h=>by simp at h,fun h=>absurd h (Q6 HNo fun h2=>h2.2 ((Q6 HMis).2 ⟨by simp,.inr (Q6 HCr)⟩))⟩⟩,Q6 HBB⟩
     ·have ct':(ty == 41)=false:=beq_eq_false_iff_ne.2 ct
      have hyes:=Q6 HYes ⟨(Q6 HV).1 (by simp),fun h=>ct ((Q6 HMis).1 h).1⟩
      have hmm:mb=true↔QeG l part (j+1):=by
       rw [Q6 HMay]
       exact ⟨fun h=>⟨(Q6 hm).1 h,ct⟩,fun h=>(Q6 hm).2 h.1⟩
      have HY:=Qa hyes
      have HMM:=Qa hmm
      clear hyes hmm ct
      go_wp2_with fail
      go_roundw
      case rel=>exact ⟨j+1,mb,by omega,by go_num,rfl,HMM,HBB,HY⟩
      case measure=>simp [intOf]; omega
   ·go_wp2_with fail
    go_ret
    exact ⟨⟨_,rfl,⟨fun _=>⟨by omega,fun k hk=>Q6 hq k hk (by omega)⟩,fun _=>rfl⟩⟩,Q6 hB⟩
def MsgAt (w:World) (N:Nat) (v:Value) (m:MI):Prop:=∃ a1 c1 a2 c2 a3 c3 a4 c4,
 v=.agg #[.int .i64 m.id,.int .i64 m.flags,.slice a1 m.q.length c1,.slice a2 m.a.length c2,.slice a3 m.u.length c3,.slice a4 m.x.length c4] ∧
 RowAt w N a1 (qcI m.q)∧RowAt w N a2 (rcI m.a)∧RowAt w N a3 (rcI m.u)∧RowAt w N a4 (rcI m.x)∧Q4m m.q∧Q4O m.a∧Q4O m.u∧Q4O m.x∧m.q.length≤c1∧m.a.length≤c2∧m.u.length≤c3∧m.x.length≤c4
theorem MsgAt.below {w w':World} {N:Nat} {v:Value} {m:MI} (h:MsgAt w N v m) (hb:Below N w w'):MsgAt w' N v m:=by
 obtain ⟨a1,c1,a2,c2,a3,c3,a4,c4,e,r1,r2,r3,r4,z⟩:=h
 exact ⟨a1,c1,a2,c2,a3,c3,a4,c4,e,r1.below hb,r2.below hb,r3.below hb,r4.below hb,z⟩
set_option maxRecDepth 100000 in
set_option maxHeartbeats 2000000 in
theorem QaR (m:MI) (v:Value) (N:Nat) (w:World) (h:MsgAt w N v m) (hN:N≤w.heap.size) :
  Calls Tryz.prog 81 #[v] w fun e w'=>Q1V (Q1A m) e∧Below w.heap.size w w':=by
 obtain ⟨a1,c1,a2,c2,a3,c3,a4,c4,rfl,r1,r2,r3,r4,z1,z2,z3,z4,_⟩:=h
 obtain ⟨id,fl,q,a,u,x⟩:=m
 simp only at r1 r2 r3 r4 z1 z2 z3 z4 ⊢
 have key1:=fun W (hb:Below N w W) (hs:N≤W.heap.size)=>Q8a q a1 c1 N W (r1.below hb) hs z1
 have key2:=fun W (hb:Below N w W) (hs:N≤W.heap.size)=>Q4n a 0 false (by simp) a2 c2 N W (r2.below hb) hs z2
 have key3:=fun W (hb:Below N w W) (hs:N≤W.heap.size)=>Q4n u 1 false (by simp) a3 c3 N W (r3.below hb) hs z3
 have key4:=fun W (hb:Below N w W) (hs:N≤W.heap.size)=>Q4n x 2 true (by simp) a4 c4 N W (r4.below hb) hs z4
 have K1:=Qa key1
 have K2:=Qa key2
 have K3:=Qa key3
 have K4:=Qa key4
 clear key1 key2 key3 key4 r1 r2 r3 r4 z1 z2 z3 z4
 generalize hB0:(w.alloc (.cells #[.int .i64 id,.int .i64 fl,.slice a1 q.length c1,.slice a2 a.length c2,.slice a3 u.length c3,.slice a4 x.length c4] 32))=W0
 have hW0:W0.heap[w.heap.size]? = some (.cells #[.int .i64 id,.int .i64 fl,.slice a1 q.length c1,.slice a2 a.length c2,.slice a3 u.length c3,.slice a4 x.length c4] 32 (0,0)):=by rw [←hB0]; exact heap_alloc_new _ _
 have hB1:Below w.heap.size w W0:=by rw [←hB0]; exact (Below.refl _ _).alloc (Nat.le_refl _) _
 have hz0:w.heap.size+1=W0.heap.size:=by rw [←hB0]; simp
 have HB0:=Qa hB0
 clear hB0
 go_enter Tryz.func81,Tryz.ntmps81
 go_wp2_with fail
 rw [Q6 HB0]
 clear HB0
 obtain ⟨⟨b0,b1,b2,b3,b4,b5⟩,y0,y1,y2,y3,y4,y5⟩:=Qh hW0
 have HW0:=Qa hW0
 clear hW0
 refine (Q3M id _).mono ?_
 rintro e w2 ⟨⟨v,rfl,hv⟩,rfl⟩
 have V1:=Qa hv
 clear hv
 cases v with
 | false =>
  go_wp2_with fail
  go_ret
  exact ⟨⟨_,rfl,⟨fun h=>by simp at h,fun h=>absurd ((Q6 V1).2 h.1) (by simp)⟩⟩,hB1⟩
 | true =>
 go_wp2_with fail
 refine (Q3M fl _).mono ?_
 rintro e w2 ⟨⟨v,rfl,hv⟩,rfl⟩
 have V2:=Qa hv
 clear hv
 cases v with
 | false =>
  go_wp2_with fail
  go_ret
  exact ⟨⟨_,rfl,⟨fun h=>by simp at h,fun h=>absurd ((Q6 V2).2 h.2.1) (by simp)⟩⟩,hB1⟩
 | true =>
 go_wp2_with fail
 refine (Q6 K1 _ (hB1.mono hN) (by omega)).mono ?_
 rintro e w2 ⟨⟨v,rfl,hv⟩,hb2⟩
 have V3:=Qa hv
 clear hv
 obtain ⟨⟨d0,d1,d2,d3,d4,d5⟩,s0,s1,s2,s3,s4,s5⟩:=Qh ((hb2.block w.heap.size (by omega)).trans (Q6 HW0))
 have hB2:=hB1.trans (hb2.mono hB1.size)
 have HW2:=Qa ((hb2.block w.heap.size (by omega)).trans (Q6 HW0))
 clear b0 b1 b2 b3 b4 b5 y0 y1 y2 y3 y4 y5
 have hs2:=hB2.size
 have hz2:=hb2.size
 cases v with
 | false =>
  go_wp2_with fail
  go_ret
  exact ⟨⟨_,rfl,⟨fun h=>by simp at h,fun h=>absurd ((Q6 V3).2 h.2.2.1) (by simp)⟩⟩,hB2⟩
 | true =>
 go_wp2_with fail
 refine (Q6 K2 _ (hB2.mono hN) (by omega)).mono ?_
 rintro e w3 ⟨⟨v,rfl,hv⟩,hb3⟩
 have V4:=Qa hv
 clear hv d0 d1 d2 d3 d4 d5 s0 s1 s2 s3 s4 s5
 obtain ⟨⟨d0,d1,d2,d3,d4,d5⟩,s0,s1,s2,s3,s4,s5⟩:=Qh ((hb3.block w.heap.size (by omega)).trans (Q6 HW2))
 have hB3:=hB2.trans (hb3.mono hB2.size)
 have HW3:=Qa ((hb3.block w.heap.size (by omega)).trans (Q6 HW2))
 have hz3:=hb3.size
 cases v with
 | false =>
  go_wp2_with fail
  go_ret
  exact ⟨⟨_,rfl,⟨fun h=>by simp at h,fun h=>absurd ((Q6 V4).2 h.2.2.2.1) (by simp)⟩⟩,hB3⟩
 | true =>
 go_wp2_with fail
 refine (Q6 K3 _ (hB3.mono hN) (by omega)).mono ?_
 rintro e w4 ⟨⟨v,rfl,hv⟩,hb4⟩
 have V5:=Qa hv
 clear hv d0 d1 d2 d3 d4 d5 s0 s1 s2 s3 s4 s5
 obtain ⟨⟨d0,d1,d2,d3,d4,d5⟩,s0,s1,s2,s3,s4,s5⟩:=Qh ((hb4.block w.heap.size (by omega)).trans (Q6 HW3))
 have hB4:=hB3.trans (hb4.mono hB3.size)
 have hz4:=hb4.size
 cases v with
 | false =>
  go_wp2_with fail
  go_ret
  exact ⟨⟨_,rfl,⟨fun h=>by simp at h,fun h=>absurd ((Q6 V5).2 h.2.2.2.2.1) (by simp)⟩⟩,hB4⟩
 | true =>
 go_wp2_with fail
 refine (Q6 K4 _ (hB4.mono hN) (by omega)).mono ?_
 rintro e w5 ⟨⟨v,rfl,hv⟩,hb5⟩
 have V6:=Qa hv
 clear hv
 go_wp2_with fail
 go_ret
 refine ⟨⟨_,rfl,?_⟩,hB4.trans (hb5.mono hB4.size)⟩
 rw [Q6 V6]
 exact ⟨fun h=>⟨(Q6 V1).1 (by simp),(Q6 V2).1 (by simp),(Q6 V3).1 (by simp),(Q6 V4).1 (by simp),(Q6 V5).1 (by simp),h⟩,fun h=>h.2.2.2.2.2⟩
end Go.Proofs.YtdhobdmhnocbgabGreatDoor
