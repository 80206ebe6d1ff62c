import Derived.Test.YtdhobdmhnocbgabGreatDoorSRecW
namespace Go.Proofs.YtdhobdmhnocbgabGreatDoor
open Go.RowKit Zr
def At (w:World) (R:Nat) (b:ByteArray) (st:Except Int Nat):Prop :=
 match st with
 | .ok p=>p≤b.size∧w.heap[R]? = some (rdr b p 0)
 | .error x=>Qe1 w R b x
theorem At.lt {w:World} {R:Nat} {b:ByteArray} {st:Except Int Nat} (h:At w R b st):R < w.heap.size:=by
 cases st with
 | ok p=>exact Qb h.2
 | error x=>obtain ⟨_,k,hk⟩:=h; exact Qb hk
theorem At.keep {w w':World} {R:Nat} {b:ByteArray} {st:Except Int Nat} (h:At w R b st) (hb:w'.heap[R]? = w.heap[R]?):At w' R b st:=by
 cases st with
 | ok p=>exact ⟨h.1,hb.trans h.2⟩
 | error x=>obtain ⟨h0,k,hk⟩:=h; exact ⟨h0,k,hb.trans hk⟩
def Qi8 (st:Except Int Nat):Int:=match st with
 | .ok _=>0
 | .error x=>x
theorem At.fail {w:World} {R:Nat} {b:ByteArray} {st:Except Int Nat} (h:At w R b st):w.cell? ⟨R,2,none⟩=some (.int .i64 (Qi8 st))∧w.frozen? ⟨R,2,none⟩=false:=by
 cases st with
 | ok p=>obtain ⟨c0,c1,c2,z0,z1,z2⟩:=Q0K h.2; exact ⟨c2,z2⟩
 | error x=>obtain ⟨_,k,hk⟩:=h; obtain ⟨c0,c1,c2,z0,z1,z2⟩:=Q0K hk; exact ⟨c2,z2⟩
theorem At.failNe {w:World} {R:Nat} {b:ByteArray} {x:Int} (h:At w R b (.error x)):x≠0:=h.1
def Q0O (b:ByteArray) (st:Except Int Nat) (n:Nat):Except Int Nat × Nat :=
 match st with
 | .ok p=>if p+n≤b.size then (.ok (p+n),num b p n) else (.error 2,0)
 | .error x=>(.error x,0)
def Q2M (b:ByteArray) (st:Except Int Nat):Except Int Nat × ByteArray :=
 match st with
 | .ok p=>match Q05 b p with
  | .ok (s,t)=>(.ok (p+t),s)
  | .error x=>(.error x,⟨#[]⟩)
 | .error x=>(.error x,⟨#[]⟩)
def Q2y (b:ByteArray) (st:Except Int Nat) (t:Nat):Except Int Nat × ByteArray :=
 match st with
 | .ok p=>if b.size < p+2∨b.size < p+2+num b p 2 then (.error 2,⟨#[]⟩) else match Q1n b (p+2) (num b p 2) t with
  | none=>(.error 4,⟨#[]⟩)
  | some d=>(.ok (p+2+num b p 2),d)
 | .error x=>(.error x,⟨#[]⟩)
theorem Q2k (R:Nat) (b:ByteArray) (st:Except Int Nat) (n:Int) (w:World) (hb:b.size≤65535) (hR:At w R b st) (hn:0≤n) (hn4:n≤4) :
  Calls Tryz.prog 112 #[.pointer (some ⟨R,0,none⟩),.int .i64 n] w fun e w'=>e=.returned (.int .i64 (Q0O b st n.toNat).2)∧At w' R b (Q0O b st n.toNat).1∧w.grownBy w' (some R):=by
 cases st with
 | error x =>
  obtain ⟨hx,k,hk⟩:=hR
  refine (Q67 R b k x n w hk hx).mono ?_
  rintro e w' ⟨rfl,rfl⟩
  exact ⟨rfl,⟨hx,k,hk⟩,Q3d _ _⟩
 | ok p =>
  obtain ⟨hp,hk⟩:=hR
  by_cases c:p+n.toNat≤b.size
  ·have e1:Q0O b (.ok p) n.toNat=(.ok (p+n.toNat),num b p n.toNat):=by unfold Q0O; simp only; rw [if_pos c]
   rw [e1]
   refine (Q53 R b p n w hb hk (by omega) hn (by omega) hn4).mono ?_
   rw [Int.toNat_natCast]
   rintro e w' ⟨rfl,h2,h3⟩
   refine ⟨rfl,⟨by omega,?_⟩,h3⟩
   rw [h2]; congr 2; omega
  ·have e1:Q0O b (.ok p) n.toNat=(.error 2,0):=by unfold Q0O; simp only; rw [if_neg c]
   rw [e1]
   refine (Q5y R b p n w hb hk (by omega) hn (by omega) (by omega)).mono ?_
   rintro e w' ⟨rfl,h2,h3⟩
   exact ⟨rfl,⟨by decide,_,h2⟩,h3⟩
theorem QfN (R:Nat) (b:ByteArray) (st:Except Int Nat) (w:World) (hb:b.size≤65535) (hR:At w R b st) :
  Calls Tryz.prog 176 #[.pointer (some ⟨R,0,none⟩)] w fun e w'=>e=.returned (.string (Q2M b st).2)∧At w' R b (Q2M b st).1∧w.grownBy w' (some R):=by
 cases st with
 | error x =>
  obtain ⟨hx,k,hk⟩:=hR
  refine (Qbt R b k x w hk hx).mono ?_
  rintro e w' ⟨rfl,rfl⟩
  exact ⟨rfl,⟨hx,k,hk⟩,Q3d _ _⟩
 | ok p =>
  obtain ⟨hp,hk⟩:=hR
  cases hx:Q05 b p with
  | error x =>
   have e1:Q2M b (.ok p)=(.error x,⟨#[]⟩):=by unfold Q2M; simp only; rw [hx]
   rw [e1]
   refine (Q9T R b p w (big hb) hk (by omega) (by omega) x (by rw [Int.toNat_natCast]; exact hx)).mono ?_
   rintro e w' ⟨h0,rfl,h2,h3⟩
   exact ⟨rfl,⟨h0,_,h2⟩,h3⟩
  | ok z =>
   obtain ⟨s,t⟩:=z
   have e1:Q2M b (.ok p)=(.ok (p+t),s):=by unfold Q2M; simp only; rw [hx]
   have hbd:=Q0F b p s t hx
   rw [e1]
   refine (Q9f R b p w (big hb) hk (by omega) (by omega) s t (by rw [Int.toNat_natCast]; exact hx)).mono ?_
   rintro e w' ⟨rfl,h2,h3⟩
   exact ⟨rfl,⟨by omega,h2⟩,h3⟩
theorem Qk8 (R:Nat) (b:ByteArray) (st:Except Int Nat) (t:Int) (w:World) (hb:b.size≤65535) (hR:At w R b st) (ht:0≤t) :
  Calls Tryz.prog 177 #[.pointer (some ⟨R,0,none⟩),.int .i64 t] w fun e w'=>e=.returned (.string (Q2y b st t.toNat).2)∧At w' R b (Q2y b st t.toNat).1∧w.grownBy w' (some R):=by
 obtain ⟨t,rfl⟩:=Int.eq_ofNat_of_zero_le ht
 rw [Int.toNat_natCast]
 cases st with
 | error x =>
  obtain ⟨hx,k,hk⟩:=hR
  refine (Qgz R b k x t w hk hx).mono ?_
  rintro e w' ⟨rfl,rfl⟩
  exact ⟨rfl,⟨hx,k,hk⟩,Q3d _ _⟩
 | ok p =>
  obtain ⟨hp,hk⟩:=hR
  by_cases c:b.size < p+2∨b.size < p+2+num b p 2
  ·have e1:Q2y b (.ok p) t=(.error 2,⟨#[]⟩):=by unfold Q2y; simp only; rw [if_pos c]
   rw [e1]
   refine (Qeq R b p t w hb hk hp c).mono ?_
   rintro e w' ⟨rfl,h2,h3⟩
   exact ⟨rfl,h2,h3⟩
  ·cases hd:Q1n b (p+2) (num b p 2) t with
   | none =>
    have e1:Q2y b (.ok p) t=(.error 4,⟨#[]⟩):=by unfold Q2y; simp only; rw [if_neg c,hd]
    rw [e1]
    refine (Qbj R b p t w hb hk (by omega) none hd).mono ?_
    rintro e w' ⟨rfl,h2,h3⟩
    exact ⟨rfl,h2,h3⟩
   | some d =>
    have e1:Q2y b (.ok p) t=(.ok (p+2+num b p 2),d):=by unfold Q2y; simp only; rw [if_neg c,hd]
    rw [e1]
    refine (Qbj R b p t w hb hk (by omega) (some d) hd).mono ?_
    rintro e w' ⟨rfl,h2,h3⟩
    exact ⟨rfl,⟨by omega,h2⟩,h3⟩
end Go.Proofs.YtdhobdmhnocbgabGreatDoor
