import Derived.Test.YtdhobdmhnocbgabGreatDoorSNwC
namespace Go.Proofs.YtdhobdmhnocbgabGreatDoor.Zr
def Q2g:List ByteArray→ByteArray
 | []=>⟨#[]⟩
 | x :: l=>wd x.size++x++Q2g l
def Q2r:List ByteArray→Nat
 | []=>0
 | x :: l=>2+x.size+Q2r l
theorem Q7h:∀ l,(Q2g l).size=Q2r l
 | []=>rfl
 | x :: l=>by
  show (wd x.size++x++Q2g l).size=2+x.size+Q2r l
  rw [ByteArray.size_append,ByteArray.size_append,Q02,Q7h l]
theorem Q7Z:∀ a b,Q2g (a++b)=Q2g a++Q2g b
 | [],b=>by show Q2g b=⟨#[]⟩++Q2g b; exact (ByteArray.empty_append).symm
 | x :: a,b=>by
  show wd x.size++x++Q2g (a++b)=wd x.size++x++Q2g a++Q2g b
  rw [Q7Z a b,←ByteArray.append_assoc]
theorem Q5V:∀ a b,Q2r (a++b)=Q2r a+Q2r b
 | [],b=>(Nat.zero_add _).symm
 | x :: a,b=>by
  show 2+x.size+Q2r (a++b)=2+x.size+Q2r a+Q2r b
  rw [Q5V a b]
  omega
end Go.Proofs.YtdhobdmhnocbgabGreatDoor.Zr
