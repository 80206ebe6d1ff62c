/-
  Plain: entries put in order by merging: in rising order of the keys, those of one key in the order in which they were.
-/
/-
  Plain: what counts of each node, as the program finds it: the same as the document's.
-/
/-
  Plain: the aliases that get a record, as the program finds them; the zone's records: the same as the document's.
-/
import Derived.Test.YtdhobdmhnocbgaaDoorSZnRa
namespace Go.Proofs.YtdhobdmhnocbgaaDoor
open Zr

/-- News with the text by which they are put in order. -/
structure En where
  key : ByteArray
  ev : Ev

def SortedE (l : List En) : Prop := l.Pairwise fun a b => ltS b.key a.key = false

def mergeP : List En → List En → List En
  | [], b => b
  | x :: a, [] => x :: a
  | x :: a, y :: b => if ltS y.key x.key = true then y :: mergeP (x :: a) b else x :: mergeP a (y :: b)

def ofKey (k : ByteArray) (l : List En) : List En := l.filter fun e => decide (e.key = k)

/-- What is sorted, as the program does it. -/
def sortP (l : List En) : List En :=
  if _h : l.length < 2 then l else mergeP (sortP (l.take (l.length / 2))) (sortP (l.drop (l.length / 2)))
termination_by l.length
decreasing_by
  · rw [List.length_take]; omega
  · rw [List.length_drop]; omega

end Go.Proofs.YtdhobdmhnocbgaaDoor

namespace Go.Proofs.YtdhobdmhnocbgaaDoor
open Zr

/-- Which of two the program takes rather. -/
def raKindB (a b : Ev) : Prop := if a.kind ≠ b.kind then a.kind = 2 else raAddr a b
def beatsE : Ev → Ev → Prop := lexI Ev.inc (fun x y => x < y) raKindB

open Classical in
noncomputable def goodL (l : List Ev) : List Ev := l.filter fun e => decide (goodE e)
def nodeEs (l : List Ev) : List En := l.map fun e => ⟨e.node, e⟩

open Classical in
/-- One more, of entries in rising order. -/
noncomputable def cntStep (c : List Ev) (e : En) : List Ev :=
  if h : c = [] then [e.ev]
  else if (c.getLast h).node ≠ e.key then c ++ [e.ev]
  else if beatsE e.ev (c.getLast h) then c.dropLast ++ [e.ev] else c

noncomputable def cntP (l : List En) : List Ev := l.foldl cntStep []

structure CntInv (L : List En) (C : List Ev) : Prop where
  rising : Rising C
  sub : ∀ c, c ∈ C → ∃ e, e ∈ L ∧ e.ev = c
  top : ∀ e, e ∈ L → ∃ c, c ∈ C ∧ c.node = e.ev.node ∧ ¬ beatsE e.ev c

/-- What is up, as the program finds it. -/
noncomputable def upM (l : List Ev) : List Ev := (cntP (sortP (nodeEs (goodL l)))).filter fun e => decide (e.kind = 1)

/-- The greatest Inc. -/
def incP (l : List Ev) : Int := l.foldl (fun m e => if m < e.inc then e.inc else m) 0

end Go.Proofs.YtdhobdmhnocbgaaDoor

namespace Go.Proofs.YtdhobdmhnocbgaaDoor
open Zr

def aliEs (up : List Ev) : List En := (up.filter fun e => decide (e.alias ≠ ⟨#[]⟩)).map fun e => ⟨e.alias, e⟩

def isUp (up : List Ev) (a : ByteArray) : Prop := ∃ u, u ∈ up ∧ u.node = a

/-- One more, of entries in rising order: the list so far, and the key before. -/
def FirstOf (L : List En) (i : Nat) : Prop := ∀ h : i < L.length, 0 < i → (L[i - 1]'(by omega)).key ≠ L[i].key

open Classical in
noncomputable def aliM (up : List Ev) (L : List En) : Nat → List Ev
  | 0 => []
  | i + 1 => if h : i < L.length then
      (if (∃ _ : 0 < i, (L[i - 1]'(by omega)).key = L[i].key) ∨ isUp up L[i].key then aliM up L i else aliM up L i ++ [L[i].ev]) else aliM up L i

/-- The keys, each once. -/
def keysTo (L : List En) : Nat → List ByteArray
  | 0 => []
  | i + 1 => if h : i < L.length then
      (if (∃ _ : 0 < i, (L[i - 1]'(by omega)).key = L[i].key) then keysTo L i else keysTo L i ++ [L[i].key]) else keysTo L i

/-- The record of an alias. -/
def cnR (e : Ev) : RI := madeR (underP e.alias) 5 (underP e.node)

/-- The zone's records, as the program makes them. -/
noncomputable def recordsM (l : List Ev) : List RI :=
  [madeR originB 6 (soaB (incP (goodL l)).toNat), madeR originB 2 serverB] ++ (upM l).flatMap nodeR ++ (aliM (upM l) (sortP (aliEs (upM l))) (sortP (aliEs (upM l))).length).map cnR ++ (upM l).map srvR

end Go.Proofs.YtdhobdmhnocbgaaDoor
