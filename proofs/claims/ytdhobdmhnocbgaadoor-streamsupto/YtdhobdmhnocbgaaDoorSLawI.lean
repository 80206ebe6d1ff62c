/-
  Walks over the law: lists with spare room behind them.
-/
/-
  Walks over the law: lists with spare room behind them (roomyRecords, sameRecords, sameQuestions, SameMessage).
-/
/-
  Walks over the law: messages that are the same, lists read where they lie.
-/
import Derived.Test.YtdhobdmhnocbgaaDoorSSerW
import Derived.Test.YtdhobdmhnocbgaaDoorSStB
import Derived.Test.YtdhobdmhnocbgaaDoorSLawC
import Derived.Laws.CopyOwn
namespace Go.Proofs.YtdhobdmhnocbgaaDoor
open Go.RowKit Zr

section
variable {P : Program}

theorem run_copy_wide (w : World) (dT sT ty elem : TypeId) (i : TypeInfo) (g dLen dCap : Nat) (sp : Option Addr) (sLen sCap : Nat) (cur : Array Value) (t : TypeId) (cs : List Value)
    (hu : P.underlying dT = some (.slice elem)) (hi : P.info? elem = some i) (hg : w.heap[g]? = some (.cells cur t (0, 0))) (hl : cs.length = sLen * i.size) (hle : sLen ≤ dLen)
    (hsrc : cs ≠ [] → ∃ a, sp = some a ∧ ∀ j v, cs[j]? = some v → w.cell? (a.add j) = some v) (hfit : cs.length ≤ cur.size) (h1 : ∀ v ∈ cs, v.oneCell' = true) :
    (Builtin.copy_ #[dT, sT] ty #[.slice (some ⟨g, 0, none⟩) dLen dCap, .slice sp sLen sCap]).run P w = .ok (goInt sLen) (w.setRow g (cs ++ cur.toList.drop cs.length).toArray) := by
  have hst := run_storeCells_at P g 0 t cs 0 cur w hg (by simpa using hfit) h1
  simp only [Nat.add_zero, Nat.zero_add, List.take_zero, List.nil_append] at hst
  have hmin : Nat.min sLen dLen = sLen := Nat.min_eq_left hle
  have hfc : (Builtin.firstCells i.size sLen (.slice sp sLen sCap)).run P w = .ok cs.toArray w := by
    by_cases c : cs = []
    · subst c
      have h0 : sLen * i.size = 0 := by simpa using hl.symm
      cases sp with
      | none => exact run_firstCells_none w i.size sLen sLen sCap
      | some a => exact run_firstCells_some w i.size sLen a sLen sCap [] hl (fun j v h => by simp at h)
    · obtain ⟨a, rfl, ha⟩ := hsrc c
      exact run_firstCells_some w i.size sLen a sLen sCap cs hl ha
  simp [Builtin.copy_, run_underlying hu, Builtin.lenOf, sizeOf, typeInfo, hi, hmin, hfc, hst]

end

/-- The last record of a list with room: the caller's mark. -/
def spareR : List Value := [.string ⟨#[]⟩, .int .i64 77, .int .i64 0, .int .i64 0, .string ⟨#[]⟩]
def spareQ : List Value := [.string ⟨#[]⟩, .int .i64 77, .int .i64 0]

theorem RowAt.addr {w : World} {N : Nat} {a : Option Addr} {xs : List Value} (h : RowAt w N a xs) : xs ≠ [] → ∃ ad, a = some ad ∧ ∀ j v, xs[j]? = some v → w.cell? (ad.add j) = some v := by
  intro hx
  obtain ⟨b, o, h1, _, h3⟩ := h hx
  refine ⟨⟨b, o, none⟩, h1, fun j v hv => ?_⟩
  have hadd : (⟨b, o, none⟩ : Addr).add j = ⟨b, o + j, none⟩ := by unfold Addr.add; split <;> simp_all
  rw [hadd]
  exact h3 j v hv

theorem made_tail (z : Array Value) (n k : Nat) (hk : z.size = k) (hp : 0 < k) : (madeCells z ((n + 1) * k)).toList.drop (n * k) = z.toList := by
  subst hk
  apply List.ext_getElem?
  intro i
  rw [List.getElem?_drop, Array.getElem?_toList, Array.getElem?_toList]
  unfold madeCells
  by_cases c : i < z.size
  · have h1 : n * z.size + i < (n + 1) * z.size := by rw [Nat.add_mul, Nat.one_mul]; omega
    have h2 : (n * z.size + i) % z.size = i := by rw [Nat.mul_comm, Nat.mul_add_mod]; exact Nat.mod_eq_of_lt c
    simp [h1, h2, c]
  · have h1 : ¬ (n * z.size + i < (n + 1) * z.size) := by rw [Nat.add_mul, Nat.one_mul]; omega
    simp [h1, c]

end Go.Proofs.YtdhobdmhnocbgaaDoor

namespace Go.Proofs.YtdhobdmhnocbgaaDoor
open Go.RowKit Zr

theorem owns_full {w : World} {base g : Nat} {e : TypeId} {size n : Nat} {xs : List Value} (h : w.ownsRow base e size (.slice (some ⟨g, 0, none⟩) n n) n xs) : w.heap[g]? = some (.cells xs.toArray e (0, 0)) := by
  rcases h.2 with ⟨h1, _⟩ | ⟨g', cap, cur, h1, h2, h3, h4, h5, h6, h7⟩
  · cases h1
  · cases h1
    have e1 : cur.toList = xs := by rw [← h7, List.take_of_length_le]; rw [Array.length_toList, h6]; exact Nat.le_refl _
    rw [h3, ← e1]

end Go.Proofs.YtdhobdmhnocbgaaDoor

namespace Go.Proofs.YtdhobdmhnocbgaaDoor
open Go.RowKit Zr

/-- No list is longer than memory can hold. -/
def Lens (m : MI) : Prop := m.q.length * 32 ≤ 140737488351232 ∧ m.a.length * 56 ≤ 140737488351232 ∧ m.u.length * 56 ≤ 140737488351232 ∧ m.x.length * 56 ≤ 140737488351232

end Go.Proofs.YtdhobdmhnocbgaaDoor
