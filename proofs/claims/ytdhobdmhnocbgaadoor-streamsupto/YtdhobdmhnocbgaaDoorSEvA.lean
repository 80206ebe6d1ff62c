/-
  Walks over the document's own answer: a node's name, good news, which count rather.
-/
/-
  Walks: the mesh: a node's name; good news.
-/
/-
  Walks: the mesh: good news.
-/
/-
  Walks: which of two counts rather: the program's, the document's.
-/
/-
  News and entries in memory: rows of seven and of eight cells; rows of the call's own.
-/
import Derived.Test.YtdhobdmhnocbgaaDoorSZnRa
import Derived.Test.YtdhobdmhnocbgaaDoorSStD
import Derived.Test.YtdhobdmhnocbgaaDoorSMeC
import Derived.Test.YtdhobdmhnocbgaaDoorSRefD
import Derived.Test.YtdhobdmhnocbgaaDoorSStA
import Derived.Deep.LoopGhost
import Derived.Deep.DeepCutAuto
namespace Go.Proofs.YtdhobdmhnocbgaaDoor
open Go.RowKit Zr

def Ev.val (e : Ev) : Value := .agg #[.int .i64 e.kind, .string e.node, .int .i64 e.inc, .string e.addr, .int .i64 e.port, .string e.text, .string e.alias]

theorem seven (c : Nat) : c < 45 ∨ c = 45 ∨ (45 < c ∧ c < 48) ∨ (48 ≤ c ∧ c ≤ 57) ∨ (57 < c ∧ c < 97) ∨ (97 ≤ c ∧ c ≤ 122) ∨ 122 < c := by omega

end Go.Proofs.YtdhobdmhnocbgaaDoor

namespace Go.Proofs.YtdhobdmhnocbgaaDoor
open Go.RowKit Zr

end Go.Proofs.YtdhobdmhnocbgaaDoor

namespace Go.Proofs.YtdhobdmhnocbgaaDoor
open Go.RowKit Zr

end Go.Proofs.YtdhobdmhnocbgaaDoor

namespace Go.Proofs.YtdhobdmhnocbgaaDoor
open Go.RowKit Zr

section
variable (w : World)
end

end Go.Proofs.YtdhobdmhnocbgaaDoor

namespace Go.Proofs.YtdhobdmhnocbgaaDoor
open Go.RowKit Zr

/-- The cells of one. -/
def ev7 (x : Ev) : List Value := [.int .i64 x.kind, .string x.node, .int .i64 x.inc, .string x.addr, .int .i64 x.port, .string x.text, .string x.alias]
def en8 (x : En) : List Value := .string x.key :: ev7 x.ev
def enC (l : List En) : List Value := l.flatMap en8

/-- An own row is read as any other. -/
theorem owns_rowAt {w : World} {N : Nat} {e : TypeId} {size : Nat} {a : Option Addr} {n c : Nat} {xs : List Value} (h : w.ownsRow N e size (.slice a n c) n xs) : RowAt w w.heap.size a xs := by
  intro hx
  have hn : 0 < n := by
    rcases Nat.eq_zero_or_pos n with h0 | h0
    · subst h0
      exact absurd (List.eq_nil_of_length_eq_zero (by simpa using h.1)) hx
    · exact h0
  obtain ⟨g, rfl, _, hg, _⟩ := owns_form h hn
  exact ⟨g, 0, rfl, hg, fun j u hu => by rw [Nat.zero_add]; exact owns_cell h j u hu⟩

theorem owns_below {w w' : World} {N : Nat} {e : TypeId} {size : Nat} {v : Value} {n : Nat} {xs : List Value} (h : w.ownsRow N e size v n xs) (hb : Below w.heap.size w w') : w'.ownsRow N e size v n xs :=
  h.kept (grown_below (row := none) hb) (by
    cases e : v.ownBlock with
    | none => exact .inl rfl
    | some g => exact .inr (by simp))

/-- An append onto a row that lies from M on leaves what is below M. -/
theorem below_append {w w' : World} {M : Nat} {e : TypeId} {size : Nat} {v : Value} {n : Nat} {xs : List Value} (h : w.ownsRow M e size v n xs) (hg : w.grownBy w' v.ownBlock) (hM : M ≤ w.heap.size) : Below M w w' :=
  ⟨hg.os, hg.tape, hg.output, hg.size, fun k hk => hg.block k (by omega) fun he => by have := (h.lt k he.symm).1; omega⟩

/-- The texts of news are no longer than anything can be. -/
def EvSized (l : List Ev) : Prop := ∀ i (h : i < l.length), l[i].node.size ≤ 9223372036854775807 ∧ l[i].addr.size ≤ 9223372036854775807 ∧ l[i].text.size ≤ 9223372036854775807 ∧ l[i].alias.size ≤ 9223372036854775807

end Go.Proofs.YtdhobdmhnocbgaaDoor
