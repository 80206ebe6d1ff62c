import Derived.Test.YtdhobdmhnocbgabGreatDoorSKeepA
import Derived.Test.YtdhobdmhnocbgabGreatDoorSRefP
namespace Go.Proofs.YtdhobdmhnocbgabGreatDoor
open Go.RowKit Zr
def RawAt (w:World) (N:Nat) (a:Option Addr) (n:Nat):Prop:=∀ j,j < n→∃ b o z,a=some ⟨b,o,none⟩∧b < N∧w.cell? ⟨b,o+j,none⟩=some (.int .i64 z)∧-9223372036854775808≤z∧z < 9223372036854775808
theorem RawAt.below {w w':World} {N:Nat} {a:Option Addr} {n:Nat} (h:RawAt w N a n) (hb:Below N w w'):RawAt w' N a n:=by
 intro j hj
 obtain ⟨b,o,z,h1,h2,h3,h4⟩:=h j hj
 exact ⟨b,o,z,h1,h2,(hb.cell (p:=⟨b,o+j,none⟩) h2).trans h3,h4⟩
def QmJ (K:List ByteArray):List Value:=K.map .string
def Qmy (m:Nat) (e:Ending):Prop:=∃ r:Nat,r < m∧e=.returned (.int .i64 r)
def QmT (m:Nat) (e:Ending):Prop:=∃ s:ByteArray,s.size=m∧e=.returned (.string s)
def QmP (e:Ending):Prop:=∃ x:ByteArray,1≤bt x 0∧bt x 0≤63∧x.size=1+bt x 0∧e=.returned (.string x)
theorem Qfm (x s:ByteArray) (h1:1≤bt x 0) (h2:bt x 0≤63) (h3:x.size=1+bt x 0) (hs:Q09 s=true) (h:x.size+s.size≤255):Q09 (x++s)=true:=by
 obtain ⟨t1,t2⟩:=Qaw hs
 refine (Q3k _).2 ⟨?_,by rw [ByteArray.size_append]; omega⟩
 have e:bt (x++s) 0=bt x 0:=by rw [Q03,if_pos (by omega)]
 refine .lab 0 (by omega) (by omega) ?_
 rw [e]
 have:=t1.shift x
 rwa [Nat.add_zero,h3,←Nat.zero_add 1] at this
theorem Qlx (b:ByteArray) (i:Nat):num b i 1=bt b i:=by simp only [num]; rw [Nat.add_zero]; omega
theorem QdD (s x:ByteArray) (q:Nat) (hq:q < 256) (hx:x.size=q):∀ (f k:Nat),s.size < k+f→k≤s.size→Q56 s 0 1 f k=true→Q56 (s++(⟨#[UInt8.ofNat q]⟩++x)) 0 1 (f+1) k=true:=by
 have hz:(s++((⟨#[UInt8.ofNat q]⟩:ByteArray)++x)).size=s.size+1+q:=by
  rw [ByteArray.size_append,ByteArray.size_append,hx]; show s.size+(1+q)=_; omega
 have hb:bt (s++((⟨#[UInt8.ofNat q]⟩:ByteArray)++x)) s.size=q:=by
  rw [Q03,if_neg (by omega),Nat.sub_self,Q03,if_pos (show 0 < (⟨#[UInt8.ofNat q]⟩:ByteArray).size by show 0 < 1; omega)]
  show (UInt8.ofNat q).toNat=q
  rw [UInt8.toNat_ofNat_of_lt' (show q < 256 by omega)]
 intro f
 induction f with
 | zero=>intro k h1 h2; omega
 | succ f ih =>
  intro k h1 h2 h
  rw [Q56] at h ⊢
  simp only [Nat.add_zero] at h ⊢
  by_cases c:s.size≤k
  ·have e:k=s.size:=by omega
   subst e
   rw [if_neg (by omega),if_neg (by omega),if_neg (by omega),Qlx,hb,if_neg (by omega)]
   cases f with
   | zero=>rw [Q56,if_pos (by omega)]
   | succ f=>rw [Q56,if_pos (by omega)]
  ·rw [if_neg c] at h
   have e:num (s++(⟨#[UInt8.ofNat q]⟩++x)) k 1=num s k 1:=by rw [Qlx,Qlx,Q03,if_pos (by omega)]
   rw [if_neg (by omega),if_neg (by omega),if_neg (by omega),e]
   rw [if_neg (by omega),if_neg (by omega)] at h
   by_cases c2:s.size < k+1+num s k 1
   ·rw [if_pos c2] at h; simp at h
   ·rw [if_neg c2] at h
    rw [if_neg (by omega)]
    exact ih _ (by omega) (by omega) h
theorem Qhg (s x:ByteArray) (q:Nat) (hq:q < 256) (hx:x.size=q) (h:Q2Q s 0 1=true):Q2Q (s++⟨#[UInt8.ofNat q]⟩++x) 0 1=true:=by
 unfold Q2Q at h ⊢
 rw [Q07]
 have h1:=QdD s x q hq hx (s.size+1) 0 (by omega) (by omega) h
 have hz:(s++((⟨#[UInt8.ofNat q]⟩:ByteArray)++x)).size=s.size+1+q:=by
  rw [ByteArray.size_append,ByteArray.size_append,hx]; show s.size+(1+q)=_; omega
 have h2:=QdD s x q hq hx (s.size+1+q) 0 (by omega) (by omega) (by rw [QbF s 0 1 (by omega) _ (s.size+1) 0 (by omega) (by omega)]; exact h)
 rw [hz]
 exact h2
theorem QmU (k:Nat) (h:k < 8):∃ ty:Nat,(#[.int .i64 1,.int .i64 2,.int .i64 5,.int .i64 6,.int .i64 12,.int .i64 16,.int .i64 28,.int .i64 33]:Array Value)[k]? = some (.int .i64 (ty:Nat))∧ty≤33:=by
 match k,h with
 | 0,_=>exact ⟨1,rfl,by omega⟩
 | 1,_=>exact ⟨2,rfl,by omega⟩
 | 2,_=>exact ⟨5,rfl,by omega⟩
 | 3,_=>exact ⟨6,rfl,by omega⟩
 | 4,_=>exact ⟨12,rfl,by omega⟩
 | 5,_=>exact ⟨16,rfl,by omega⟩
 | 6,_=>exact ⟨28,rfl,by omega⟩
 | 7,_=>exact ⟨33,rfl,by omega⟩
end Go.Proofs.YtdhobdmhnocbgabGreatDoor
