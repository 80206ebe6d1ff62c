import Derived.Test.YtdhobdmhnocbgabGreatDoorSRolH
import Derived.Test.YtdhobdmhnocbgabGreatDoorSNwC
import Derived.Test.YtdhobdmhnocbgabGreatDoorSSiW
namespace Go.Proofs.YtdhobdmhnocbgabGreatDoor
open Go.RowKit Zr
theorem Q5z:Q09 Qm=true:=by kernel_rfl
theorem QaZ:Q09 Q36=true:=by kernel_rfl
def QmW:ByteArray:=⟨#[4,95,116,99,112,3,115,118,99,4,109,101,115,104,0]⟩
theorem Q46 {s:ByteArray} (h1:1≤s.size) (h2:s.size≤15):Q09 (Qj s)=true∧(Qj s).size≤40:=by
 have e:bt (one s.size++s) 0=s.size:=by
  rw [Q03,if_pos (by show 0 < 1; omega)]
  show (UInt8.ofNat s.size).toNat=_
  rw [UInt8.toNat_ofNat_of_lt' (by simpa using (show s.size < 256 by omega))]
 have hs:(one s.size++s).size=1+s.size:=by rw [ByteArray.size_append]; rfl
 have ho:Qm.size=10:=rfl
 refine ⟨Qfm (one s.size++s) Qm (by omega) (by omega) (by omega) Q5z (by omega),?_⟩
 unfold Qj
 rw [ByteArray.size_append]
 omega
section
variable {w0 w w1:World} {N R:Nat} {a:Option Addr} {n c:Nat} {K K':List ByteArray} {P:Nat} {ps cs:Array Value}
end
structure QmB (m:MI):Prop where
 ok:Q1A m
 fl:m.flags < 32768
 q2:m.q.length≤2
 a0:m.a=[]
 u0:m.u=[]
 x1:m.x=[]∨∃ o,m.x=[o]∧o.ty=41∧0≤o.cl∧o.data.size≤600
section
variable {w0 w w1:World} {N R:Nat} {a:Option Addr} {n c:Nat} {K K':List ByteArray} {P:Nat} {id fl:Int} {aq:Option Addr} {j cq:Nat} {lq:List QI} {ax:Option Addr} {i cx:Nat} {lx:List RI}
end
def QmN (P:Nat) (v:Value):Prop:=∃ vs:Array Value,v=.agg vs∧∀ (i:Nat) (u:Value) (g:Nat),vs[i]? = some u→u.ownBlock=some g→P≤g
section
variable {w0 w w1:World} {N R:Nat} {a:Option Addr} {n c:Nat} {K K':List ByteArray} {P:Nat} {id fl:Int} {aq:Option Addr} {j cq:Nat} {lq:List QI} {ax:Option Addr} {i cx:Nat} {lx:List RI}
end
def Qmx (w:World) (e:Ending) (w':World):Prop:=∃ m v,e=.returned (.tuple #[.string (Q3m m.nat).1,v,.bool true])∧QmB m∧MsgAt w' w'.heap.size v m∧Below w.heap.size w w'
def Qmw (w:World) (x:Rep) (e:Ending) (w':World):Prop:=∃ c v,e=.returned (.tuple #[.string (Q3m (Q0A x c).nat).1,v,.bool true])∧Q3o x c∧MsgAt w' w'.heap.size v (Q0A x c)∧Below w.heap.size w w'
end Go.Proofs.YtdhobdmhnocbgabGreatDoor
