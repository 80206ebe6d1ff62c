/-
  Plain: news, which of them count, the zone's records, as the document's own answer finds them.
-/
/-
  Plain: the order of texts is strict and total.
-/
/-
  Plain: what counts of the nodes that are up: in rising order of the nodes, each once.
-/
/-
  Plain: the aliases of the nodes that are up, in rising order, each once.
-/
/-
  Plain: which of two counts rather: transitive; where neither does, both say the same. The node that bears an alias.
-/
import Derived.Test.YtdhobdmhnocbgaaDoorSMsgs
import Derived.Test.YtdhobdmhnocbgaaDoorSFrm
import Derived.Test.YtdhobdmhnocbgaaDoorSStA
namespace Go.Proofs.YtdhobdmhnocbgaaDoor
open Zr

/-- News. -/
structure Ev where
  kind : Int
  node : ByteArray
  inc : Int
  addr : ByteArray
  port : Int
  text : ByteArray
  alias : ByteArray

instance : Inhabited Ev := ⟨⟨0, ⟨#[]⟩, 0, ⟨#[]⟩, 0, ⟨#[]⟩, ⟨#[]⟩⟩⟩

/-- The order of texts. -/
def ltS (x y : ByteArray) : Bool := Go.Op.bytesLess x.toList y.toList

def labC (c : Nat) : Prop := (97 ≤ c ∧ c ≤ 122) ∨ (48 ≤ c ∧ c ≤ 57) ∨ c = 45
def labelOk (s : ByteArray) : Prop := (∀ i, i < s.size → labC (bt s i)) ∧ 1 ≤ s.size ∧ s.size ≤ 15

def aliveOk (e : Ev) : Prop := (e.alias = ⟨#[]⟩ ∨ labelOk e.alias) ∧ (e.addr.size = 4 ∨ e.addr.size = 16) ∧ 0 ≤ e.port ∧ e.port ≤ 65535 ∧ e.text.size ≤ 60
def goodE (e : Ev) : Prop := labelOk e.node ∧ 0 ≤ e.inc ∧ e.inc ≤ 2147483647 ∧ (e.kind = 2 ∨ (e.kind = 1 ∧ aliveOk e))

/-- Which of two of the same node counts rather. -/
def ratherE (a b : Ev) : Prop :=
  if a.inc ≠ b.inc then b.inc < a.inc else if a.kind ≠ b.kind then a.kind = 2 else if a.kind = 2 then False else
  if a.addr ≠ b.addr then ltS b.addr a.addr = true else if a.port ≠ b.port then b.port < a.port else if a.text ≠ b.text then ltS b.text a.text = true else ltS b.alias a.alias = true

def evAt (l : List Ev) (i : Nat) : Ev := l[i]?.getD default

def beaten (l : List Ev) (i k : Nat) : Prop := goodE (evAt l k) ∧ (evAt l k).node = (evAt l i).node ∧ (ratherE (evAt l k) (evAt l i) ∨ (¬ ratherE (evAt l i) (evAt l k) ∧ k < i))
def countsE (l : List Ev) (i : Nat) : Prop := goodE (evAt l i) ∧ ∀ k, k < l.length → ¬ beaten l i k

open Classical in
/-- What counts of the nodes that are up, among the first. -/
noncomputable def allTo (l : List Ev) : Nat → List Ev
  | 0 => []
  | i + 1 => allTo l i ++ (if countsE l i ∧ (evAt l i).kind = 1 then [evAt l i] else [])

/-- The least node above the last, among the first. -/
def bestTo (all : List Ev) (last : ByteArray) : Nat → Option Nat
  | 0 => none
  | i + 1 =>
    if ltS last (evAt all i).node = true ∧ (∀ b, bestTo all last i = some b → ltS (evAt all i).node (evAt all b).node = true) then some i else bestTo all last i

def upStep (all : List Ev) (s : List Ev × ByteArray) : List Ev × ByteArray :=
  match bestTo all s.2 all.length with
  | none => s
  | some b => (s.1 ++ [evAt all b], (evAt all b).node)

def upTo (all : List Ev) : Nat → List Ev × ByteArray
  | 0 => ([], ⟨#[]⟩)
  | k + 1 => upStep all (upTo all k)

noncomputable def upP (l : List Ev) : List Ev := (upTo (allTo l l.length) (allTo l l.length).length).1

open Classical in
noncomputable def serTo (l : List Ev) : Nat → Int
  | 0 => 0
  | i + 1 => if goodE (evAt l i) ∧ serTo l i < (evAt l i).inc then (evAt l i).inc else serTo l i

/-- Names of the zone. -/
def originB : ByteArray := ⟨#[3, 115, 118, 99, 4, 109, 101, 115, 104, 0]⟩
def serverB : ByteArray := ⟨#[2, 110, 115, 3, 115, 118, 99, 4, 109, 101, 115, 104, 0]⟩
def adminB : ByteArray := ⟨#[5, 97, 100, 109, 105, 110, 3, 115, 118, 99, 4, 109, 101, 115, 104, 0]⟩
def serviceB : ByteArray := ⟨#[5, 95, 110, 111, 100, 101, 4, 95, 116, 99, 112, 3, 115, 118, 99, 4, 109, 101, 115, 104, 0]⟩

def one (n : Nat) : ByteArray := ⟨#[UInt8.ofNat n]⟩
def underP (s : ByteArray) : ByteArray := one s.size ++ s ++ originB
def madeR (name : ByteArray) (t : Int) (data : ByteArray) : RI := ⟨name, t, 1, 30, data⟩

/-- The first that has the alias, of the first ones; from the end on. -/
def bearTo (up : List Ev) (a : ByteArray) : Nat → ByteArray
  | 0 => ⟨#[]⟩
  | i + 1 => if (evAt up (up.length - 1 - i)).alias = a then (evAt up (up.length - 1 - i)).node else bearTo up a i
def bearP (up : List Ev) (a : ByteArray) : ByteArray := if (∃ i, i < up.length ∧ (evAt up i).node = a) then ⟨#[]⟩ else bearTo up a up.length

/-- The least alias above the last, among the first. -/
def leastTo (up : List Ev) (last : ByteArray) : Nat → ByteArray
  | 0 => ⟨#[]⟩
  | i + 1 =>
    if ltS last (evAt up i).alias = true ∧ (leastTo up last i = ⟨#[]⟩ ∨ ltS (evAt up i).alias (leastTo up last i) = true) then (evAt up i).alias else leastTo up last i

def aliStep (up : List Ev) (s : List RI × ByteArray) : List RI × ByteArray :=
  if leastTo up s.2 up.length = ⟨#[]⟩ then s
  else (if bearP up (leastTo up s.2 up.length) = ⟨#[]⟩ then s.1 else s.1 ++ [madeR (underP (leastTo up s.2 up.length)) 5 (underP (bearP up (leastTo up s.2 up.length)))], leastTo up s.2 up.length)

def aliTo (up : List Ev) : Nat → List RI × ByteArray
  | 0 => ([], ⟨#[]⟩)
  | k + 1 => aliStep up (aliTo up k)


def soaB (n : Nat) : ByteArray := serverB ++ adminB ++ q4 n ++ q4 3600 ++ q4 600 ++ q4 86400 ++ q4 30

def nodeR (e : Ev) : List RI := madeR (underP e.node) (if e.addr.size = 16 then 28 else 1) e.addr :: (if e.text = ⟨#[]⟩ then [] else [madeR (underP e.node) 16 (one e.text.size ++ e.text)])
def srvR (e : Ev) : RI := madeR serviceB 33 (q4 0 ++ wd e.port.toNat ++ underP e.node)

/-- The zone's records. -/
noncomputable def recordsP (l : List Ev) : List RI :=
  [madeR originB 6 (soaB (serTo l l.length).toNat), madeR originB 2 serverB] ++ (upP l).flatMap nodeR ++ (aliTo (upP l) (upP l).length).1 ++ (upP l).map srvR

/-- The cells of a list of news. -/
def evC (l : List Ev) : List Go.Value := l.flatMap fun x => [.int .i64 x.kind, .string x.node, .int .i64 x.inc, .string x.addr, .int .i64 x.port, .string x.text, .string x.alias]

end Go.Proofs.YtdhobdmhnocbgaaDoor

namespace Go.Proofs.YtdhobdmhnocbgaaDoor
open Zr

end Go.Proofs.YtdhobdmhnocbgaaDoor

namespace Go.Proofs.YtdhobdmhnocbgaaDoor
open Zr

/-- In rising order of the nodes. -/
def Rising (l : List Ev) : Prop := l.Pairwise fun a b => ltS a.node b.node = true

def above (all : List Ev) (last : ByteArray) : Nat := all.countP fun e => ltS last e.node

structure UpInv (all : List Ev) (k : Nat) (s : List Ev × ByteArray) : Prop where
  rising : Rising s.1
  low : ∀ e, e ∈ s.1 → ltS s.2 e.node = false
  sub : ∀ e, e ∈ s.1 → e ∈ all
  got : ∀ e, e ∈ all → ltS s.2 e.node = false → e ∈ s.1
  less : above all s.2 ≤ all.length - k

end Go.Proofs.YtdhobdmhnocbgaaDoor

namespace Go.Proofs.YtdhobdmhnocbgaaDoor
open Zr

def RisingS (l : List ByteArray) : Prop := l.Pairwise fun a b => ltS a b = true

/-- The record of an alias, if it belongs to a node. -/
def aliR (up : List Ev) (a : ByteArray) : Option RI := if bearP up a = ⟨#[]⟩ then none else some (madeR (underP a) 5 (underP (bearP up a)))

def aboveA (up : List Ev) (last : ByteArray) : Nat := up.countP fun e => ltS last e.alias

structure AlInv (up : List Ev) (k : Nat) (s : List RI × ByteArray) : Prop where
  ex : ∃ S : List ByteArray, RisingS S ∧ (∀ a, a ∈ S → ltS s.2 a = false) ∧ (∀ a, a ∈ S → ∃ e, e ∈ up ∧ e.alias = a ∧ a ≠ ⟨#[]⟩) ∧ (∀ e, e ∈ up → e.alias ≠ ⟨#[]⟩ → ltS s.2 e.alias = false → e.alias ∈ S) ∧ s.1 = S.filterMap (aliR up)
  less : aboveA up s.2 ≤ up.length - k

end Go.Proofs.YtdhobdmhnocbgaaDoor

namespace Go.Proofs.YtdhobdmhnocbgaaDoor
open Zr

section
variable {α : Type} [DecidableEq α]

/-- One step of an order by several fields. -/
def lexI (f : Ev → α) (lt : α → α → Prop) (R : Ev → Ev → Prop) (a b : Ev) : Prop := if f a ≠ f b then lt (f b) (f a) else R a b

end

def raAlias (a b : Ev) : Prop := ltS b.alias a.alias = true
def raText : Ev → Ev → Prop := lexI Ev.text (fun x y => ltS x y = true) raAlias
def raPort : Ev → Ev → Prop := lexI Ev.port (fun x y => x < y) raText
def raAddr : Ev → Ev → Prop := lexI Ev.addr (fun x y => ltS x y = true) raPort
def raGone (a b : Ev) : Prop := a.kind ≠ 2 ∧ raAddr a b
def raKind (a b : Ev) : Prop := if a.kind ≠ b.kind then a.kind = 2 else raGone a b
def raInc : Ev → Ev → Prop := lexI Ev.inc (fun x y => x < y) raKind

end Go.Proofs.YtdhobdmhnocbgaaDoor
