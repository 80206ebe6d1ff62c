import Derived.Test.YtdhobdmhnocbgabGreatDoorSNwC
namespace Go.Proofs.YtdhobdmhnocbgabGreatDoor.Zr
def Q2h:List ByteArray→ByteArray
 | []=>⟨#[]⟩
 | x :: l=>wd x.size++x++Q2h l
def Q2r:List ByteArray→Nat
 | []=>0
 | x :: l=>2+x.size+Q2r l
theorem Q73:∀ l,(Q2h l).size=Q2r l
 | []=>rfl
 | x :: l=>by
  show (wd x.size++x++Q2h l).size=2+x.size+Q2r l
  rw [ByteArray.size_append,ByteArray.size_append,Q00,Q73 l]
theorem Q7A:∀ a b,Q2h (a++b)=Q2h a++Q2h b
 | [],b=>by show Q2h b=⟨#[]⟩++Q2h b; exact (ByteArray.empty_append).symm
 | x :: a,b=>by
  show wd x.size++x++Q2h (a++b)=wd x.size++x++Q2h a++Q2h b
  rw [Q7A a b,←ByteArray.append_assoc]
theorem Q5Z:∀ a b,Q2r (a++b)=Q2r a+Q2r b
 | [],b=>(Nat.zero_add _).symm
 | x :: a,b=>by
  show 2+x.size+Q2r (a++b)=2+x.size+Q2r a+Q2r b
  rw [Q5Z a b]
  omega
end Go.Proofs.YtdhobdmhnocbgabGreatDoor.Zr
