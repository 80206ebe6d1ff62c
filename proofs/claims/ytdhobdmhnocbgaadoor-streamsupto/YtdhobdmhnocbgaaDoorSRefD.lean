/-
  Walks over the document's own answer: bytes, numbers, names.
-/
/-
  Walks over the document's own answer: names, data.
-/
/-
  Walks over the document's own answer: questions, records.
-/
/-
  Walks over the document's own answer: misplaced.
-/
import Derived.Test.YtdhobdmhnocbgaaDoorSStA
import Derived.Test.YtdhobdmhnocbgaaDoorSRecs
import Derived.Test.YtdhobdmhnocbgaaDoorSRefP
import Derived.Test.YtdhobdmhnocbgaaDoorSStB
namespace Go.Proofs.YtdhobdmhnocbgaaDoor
open Go.RowKit Zr

/-- What the name's recursion gives. -/
def RestPost (res : Except Int (ByteArray × Nat)) (e : Ending) : Prop :=
  match res with
  | .ok (s, t) => e = .returned (.tuple #[.string s, .int .i64 t, .int .i64 0])
  | .error x => x ≠ 0 ∧ ∃ (s : ByteArray) (t : Int), e = .returned (.tuple #[.string s, .int .i64 t, .int .i64 x])

end Go.Proofs.YtdhobdmhnocbgaaDoor

namespace Go.Proofs.YtdhobdmhnocbgaaDoor
open Go.RowKit Zr

/-- What Data gives. -/
def DataPost (res : Option ByteArray) (e : Ending) : Prop :=
  match res with
  | some d => e = .returned (.tuple #[.string d, .bool true])
  | none => ∃ s : ByteArray, e = .returned (.tuple #[.string s, .bool false])

end Go.Proofs.YtdhobdmhnocbgaaDoor

namespace Go.Proofs.YtdhobdmhnocbgaaDoor
open Go.RowKit Zr

def qVal (q : Qs) : Value := .agg #[.string q.name, .int .i64 q.ty, .int .i64 q.cl]
def rVal (x : Rc) : Value := .agg #[.string x.name, .int .i64 x.ty, .int .i64 x.cl, .int .i64 x.ttl, .string x.data]

def RqPost (res : Except Int (Qs × Nat)) (e : Ending) : Prop :=
  match res with
  | .ok (q, p) => e = .returned (.tuple #[.agg #[.string q.name, .int .i64 q.ty, .int .i64 q.cl], .int .i64 p, .int .i64 0])
  | .error x => x ≠ 0 ∧ e = .returned (.tuple #[.agg #[.string ⟨#[]⟩, .int .i64 0, .int .i64 0], .int .i64 0, .int .i64 x])

def RrPost (res : Except Int (Rc × Nat)) (e : Ending) : Prop :=
  match res with
  | .ok (x, p) => e = .returned (.tuple #[.agg #[.string x.name, .int .i64 x.ty, .int .i64 x.cl, .int .i64 x.ttl, .string x.data], .int .i64 p, .int .i64 0])
  | .error x => x ≠ 0 ∧ e = .returned (.tuple #[.agg #[.string ⟨#[]⟩, .int .i64 0, .int .i64 0, .int .i64 0, .string ⟨#[]⟩], .int .i64 0, .int .i64 x])

end Go.Proofs.YtdhobdmhnocbgaaDoor

namespace Go.Proofs.YtdhobdmhnocbgaaDoor
open Go.RowKit Zr

theorem owns_cell {w : World} {N : Nat} {e : TypeId} {size : Nat} {n : Nat} {xs : List Value} {g : Nat} {c : Nat} (h : w.ownsRow N e size (.slice (some ⟨g, 0, none⟩) n c) n xs) (j : Nat) (u : Value) (hu : xs[j]? = some u) : w.cell? ⟨g, j, none⟩ = some u := by
  have := h.cells (g := g) rfl j u hu
  have hadd : (⟨g, 0, none⟩ : Addr).add j = ⟨g, j, none⟩ := by unfold Addr.add; split <;> simp_all
  rwa [hadd] at this

theorem owns_form {w : World} {N : Nat} {e : TypeId} {size : Nat} {a : Option Addr} {n c : Nat} {xs : List Value} (h : w.ownsRow N e size (.slice a n c) n xs) (hn : 0 < n) : ∃ g, a = some ⟨g, 0, none⟩ ∧ N ≤ g ∧ g < w.heap.size ∧ n ≤ c := by
  rcases h.2 with ⟨h1, h2⟩ | ⟨g, cap, cur, h1, h2, h3, h4, _⟩
  · omega
  · cases h1
    exact ⟨g, rfl, h2, blk_lt h3, h4⟩

end Go.Proofs.YtdhobdmhnocbgaaDoor
