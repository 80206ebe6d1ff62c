/-
  The plain side of writing: which data are well made; how long a name is with which bytes begin.
-/
/-
  The plain side of writing: messages as they are handed in, which are well made, what is written of them.
-/
import Derived.Test.YtdhobdmhnocbgaaDoorSFrm
import Derived.Test.YtdhobdmhnocbgaaDoorSRecs
namespace Go.Proofs.YtdhobdmhnocbgaaDoor.Zr

/-- How long the name is with which bytes begin; 0: there is none. -/
def lenN (s : ByteArray) : Nat := match nameAt s 0 with
  | .ok (_, t) => t
  | .error _ => 0

/-- Data of a type, with the names whole. -/
def wellD (t : Nat) (d : ByteArray) : Prop := d.size ≤ 65535 ∧ dataP d 0 d.size t = some d

end Go.Proofs.YtdhobdmhnocbgaaDoor.Zr

namespace Go.Proofs.YtdhobdmhnocbgaaDoor.Zr

structure QI where
  name : ByteArray
  ty : Int
  cl : Int

structure RI where
  name : ByteArray
  ty : Int
  cl : Int
  ttl : Int
  data : ByteArray

structure MI where
  id : Int
  flags : Int
  q : List QI
  a : List RI
  u : List RI
  x : List RI

def wordOk (n : Int) : Prop := 0 ≤ n ∧ n ≤ 65535

def recOk (x : RI) : Prop := wholeB x.name = true ∧ wordOk x.ty ∧ wordOk x.cl ∧ (0 ≤ x.ttl ∧ x.ttl ≤ 4294967295) ∧ wellD x.ty.toNat x.data

def misI (l : List RI) (x : RI) (part : Nat) : Prop := x.ty = 41 ∧ ((∃ y, y ∈ l ∧ y.ty = 41) ∨ part ≠ 2 ∨ x.name ≠ ⟨#[0]⟩)

def partOk (l : List RI) (part : Nat) : Prop := l.length ≤ 65535 ∧ ∀ i (h : i < l.length), recOk l[i] ∧ ¬ misI (l.take i) l[i] part

def queOk (q : QI) : Prop := wholeB q.name = true ∧ wordOk q.ty ∧ wordOk q.cl

def quesOk (l : List QI) : Prop := l.length ≤ 65535 ∧ ∀ i (h : i < l.length), queOk l[i]

def msgOk (m : MI) : Prop := wordOk m.id ∧ wordOk m.flags ∧ quesOk m.q ∧ partOk m.a 0 ∧ partOk m.u 1 ∧ partOk m.x 2

def QI.nat (q : QI) : Qs := ⟨q.name, q.ty.toNat, q.cl.toNat⟩
def RI.nat (x : RI) : Rc := ⟨x.name, x.ty.toNat, x.cl.toNat, x.ttl.toNat, x.data⟩
def MI.nat (m : MI) : Msg := ⟨m.id.toNat, m.flags.toNat, m.q.map QI.nat, m.a.map RI.nat, m.u.map RI.nat, m.x.map RI.nat⟩

def Qs.int (q : Qs) : QI := ⟨q.name, q.ty, q.cl⟩
def Rc.int (x : Rc) : RI := ⟨x.name, x.ty, x.cl, x.ttl, x.data⟩
def Msg.int (m : Msg) : MI := ⟨m.id, m.flags, m.q.map Qs.int, m.a.map Rc.int, m.u.map Rc.int, m.x.map Rc.int⟩

/-- How many names data begin with, that are written short. -/
def namesOf (t : Nat) : Nat := if t = 2 ∨ t = 5 ∨ t = 12 then 1 else if t = 6 then 2 else 0
def restOf (t : Nat) : Nat := if t = 2 ∨ t = 5 ∨ t = 12 then 0 else if t = 6 then 20 else 0

/-- Names of data, written short at the place p on: the bytes, what is known then, how many bytes of the data they were. -/
def sdTo (K : List (ByteArray × Nat)) (d : ByteArray) (p : Nat) : Nat → ByteArray × List (ByteArray × Nat) × Nat
  | 0 => (⟨#[]⟩, K, 0)
  | i + 1 => match nameAt d (sdTo K d p i).2.2 with
    | .ok (x, t) => ((sdTo K d p i).1 ++ (short (sdTo K d p i).2.1 x (p + (sdTo K d p i).1.size)).1, (sdTo K d p i).2.1 ++ (short (sdTo K d p i).2.1 x (p + (sdTo K d p i).1.size)).2, (sdTo K d p i).2.2 + t)
    | .error _ => sdTo K d p i

def sdata (K : List (ByteArray × Nat)) (d : ByteArray) (t p : Nat) : ByteArray × List (ByteArray × Nat) :=
  ((sdTo K d p (namesOf t)).1 ++ d.extract (sdTo K d p (namesOf t)).2.2 d.size, (sdTo K d p (namesOf t)).2.1)

abbrev St := ByteArray × List (ByteArray × Nat)

def wname (st : St) (s : ByteArray) : St := (st.1 ++ (short st.2 s st.1.size).1, st.2 ++ (short st.2 s st.1.size).2)
def wput (st : St) (s : ByteArray) : St := (st.1 ++ s, st.2)
def wque (st : St) (q : Qs) : St := wput (wput (wname st q.name) (wd q.ty)) (wd q.cl)
def whead (st : St) (x : Rc) : St := wput (wput (wput (wput (wname st x.name) (wd x.ty)) (wd x.cl)) (wd (x.ttl / 65536))) (wd (x.ttl % 65536))
def wrec (st : St) (x : Rc) : St :=
  ((whead st x).1 ++ wd (sdata (whead st x).2 x.data x.ty ((whead st x).1.size + 2)).1.size ++ (sdata (whead st x).2 x.data x.ty ((whead st x).1.size + 2)).1, (sdata (whead st x).2 x.data x.ty ((whead st x).1.size + 2)).2)

def stepQ (st : St) (q : Qs) : St := if 65535 < st.1.size then st else wque st q
def stepR (st : St) (x : Rc) : St := if 65535 < st.1.size then st else wrec st x

def wtop (m : Msg) : St := (wd m.id ++ wd m.flags ++ wd m.q.length ++ wd m.a.length ++ wd m.u.length ++ wd m.x.length, [])
def writ (m : Msg) : St := m.x.foldl stepR (m.u.foldl stepR (m.a.foldl stepR (m.q.foldl stepQ (wtop m))))

/-- What Serialize answers. -/
def SerIs (m : MI) (s : ByteArray) (e : Int) : Prop :=
  (¬ msgOk m ∧ s = ⟨#[]⟩ ∧ e = 7) ∨ (msgOk m ∧ 65535 < (writ m.nat).1.size ∧ s = ⟨#[]⟩ ∧ e = 1) ∨ (msgOk m ∧ ¬ 65535 < (writ m.nat).1.size ∧ s = (writ m.nat).1 ∧ e = 0)

theorem SerIs.same {m : MI} {s t : ByteArray} {e f : Int} (h : SerIs m s e) (k : SerIs m t f) : s = t ∧ e = f := by
  rcases h with ⟨h1, h2, h3⟩ | ⟨h1, h2, h3, h4⟩ | ⟨h1, h2, h3, h4⟩ <;> rcases k with ⟨k1, k2, k3⟩ | ⟨k1, k2, k3, k4⟩ | ⟨k1, k2, k3, k4⟩
  · exact ⟨h2.trans k2.symm, h3.trans k3.symm⟩
  · exact absurd k1 h1
  · exact absurd k1 h1
  · exact absurd h1 k1
  · exact ⟨h3.trans k3.symm, h4.trans k4.symm⟩
  · exact absurd h2 k2
  · exact absurd h1 k1
  · exact absurd k2 h2
  · exact ⟨h3.trans k3.symm, h4.trans k4.symm⟩

/-- Of a state: no more is known than there are bytes; each place can be named by a pointer. -/
def StOk (st : St) : Prop := st.2.length ≤ st.1.size ∧ ∀ q, q ∈ st.2 → q.2 ≤ 16383

end Go.Proofs.YtdhobdmhnocbgaaDoor.Zr
