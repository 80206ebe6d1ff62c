/-
  Walks over the law: lists with spare room behind them.
-/
import Derived.Test.YtgpgllbakfgocaaWellY
import Derived.Test.YtgpgllbakfgocaaListW
namespace Go.Proofs.Ytgpgllbakfgocaa
open Go.RowKit Zr

section
variable {P : Program}

theorem run_copy_wide (w : World) (dT sT ty elem : TypeId) (i : TypeInfo) (g dLen dCap : Nat) (sp : Option Addr) (sLen sCap : Nat) (cur : Array Value) (t : TypeId) (cs : List Value)
    (hu : P.underlying dT = some (.slice elem)) (hi : P.info? elem = some i) (hg : w.heap[g]? = some (.cells cur t (0, 0))) (hl : cs.length = sLen * i.size) (hle : sLen ≤ dLen)
    (hsrc : cs ≠ [] → ∃ a, sp = some a ∧ ∀ j v, cs[j]? = some v → w.cell? (a.add j) = some v) (hfit : cs.length ≤ cur.size) (h1 : ∀ v ∈ cs, v.oneCell' = true) :
    (Builtin.copy_ #[dT, sT] ty #[.slice (some ⟨g, 0, none⟩) dLen dCap, .slice sp sLen sCap]).run P w = .ok (goInt sLen) (w.setRow g (cs ++ cur.toList.drop cs.length).toArray) := by
  have hst := run_storeCells_at P g 0 t cs 0 cur w hg (by simpa using hfit) h1
  simp only [Nat.add_zero, Nat.zero_add, List.take_zero, List.nil_append] at hst
  have hmin : Nat.min sLen dLen = sLen := Nat.min_eq_left hle
  have hfc : (Builtin.firstCells i.size sLen (.slice sp sLen sCap)).run P w = .ok cs.toArray w := by
    by_cases c : cs = []
    · subst c
      have h0 : sLen * i.size = 0 := by simpa using hl.symm
      cases sp with
      | none => exact run_firstCells_none w i.size sLen sLen sCap
      | some a => exact run_firstCells_some w i.size sLen a sLen sCap [] hl (fun j v h => by simp at h)
    · obtain ⟨a, rfl, ha⟩ := hsrc c
      exact run_firstCells_some w i.size sLen a sLen sCap cs hl ha
  simp [Builtin.copy_, run_underlying hu, Builtin.lenOf, sizeOf, typeInfo, hi, hmin, hfc, hst]

theorem wpList_copy_wide {w : World} {ops : Array Oper} {rest : List Oper} {o : Oper} {a : Act} {Q : Exit → Act → World → Prop} (hgd : o.guard = none) (d s : Operand) (dT sT : TypeId)
    (ho : o.op = .call { callee := .builtin .copy, args := #[d, s], argTypes := #[dT, sT] }) (elem : TypeId) (i : TypeInfo) (hu : P.underlying dT = some (.slice elem)) (hi : P.info? elem = some i)
    (g dLen dCap : Nat) (sp : Option Addr) (sLen sCap : Nat) (hd : a.eval d = .slice (some ⟨g, 0, none⟩) dLen dCap) (hs : a.eval s = .slice sp sLen sCap)
    (cur : Array Value) (t : TypeId) (hg : w.heap[g]? = some (.cells cur t (0, 0))) (cs : List Value) (hl : cs.length = sLen * i.size) (hle : sLen ≤ dLen)
    (hsrc : cs ≠ [] → ∃ a, sp = some a ∧ ∀ j v, cs[j]? = some v → w.cell? (a.add j) = some v) (hfit : cs.length ≤ cur.size) (h1 : ∀ v ∈ cs, v.oneCell' = true)
    (h : ∀ w', w'.heap[g]? = some (.cells (cs ++ cur.toList.drop cs.length).toArray t (0, 0)) → w.grownBy w' (some g) → wpList P ops Q rest (a.put o.dst (goInt sLen)) w') : wpList P ops Q (o :: rest) a w := by
  refine wpList_plain hgd fun K hK => ?_
  have hrun := run_copy_wide (P := P) w dT sT o.type elem i g dLen dCap sp sLen sCap cur t cs hu hi hg hl hle hsrc hfit h1
  unfold Oper.wp
  simp [execOp, ho, resolve, invoke, builtin, hd, hs, hrun, Result.andThen]
  refine hK _ _ (h _ (setRow_heap w g _ _ t _ hg) ⟨rfl, rfl, rfl, by simp, fun k _ hk => setRow_other w g k _ (fun e => hk (by rw [e]))⟩)

end

theorem rcI_len (l : List RI) : (rcI l).length = l.length * 5 := by
  induction l with
  | nil => rfl
  | cons x l ih => simp only [rcI, List.flatMap_cons, List.length_append, List.length_cons, List.length_nil] at ih ⊢; omega
theorem qcI_len (l : List QI) : (qcI l).length = l.length * 3 := by
  induction l with
  | nil => rfl
  | cons x l ih => simp only [qcI, List.flatMap_cons, List.length_append, List.length_cons, List.length_nil] at ih ⊢; omega
theorem rcI_one (l : List RI) : ∀ v ∈ rcI l, v.oneCell' = true := by
  intro v hv
  unfold rcI at hv
  obtain ⟨x, _, hx⟩ := List.mem_flatMap.1 hv
  simp at hx
  rcases hx with rfl | rfl | rfl | rfl | rfl <;> rfl
theorem qcI_one (l : List QI) : ∀ v ∈ qcI l, v.oneCell' = true := by
  intro v hv
  unfold qcI at hv
  obtain ⟨x, _, hx⟩ := List.mem_flatMap.1 hv
  simp at hx
  rcases hx with rfl | rfl | rfl <;> rfl

/-- The last record of a list with room: the caller's mark. -/
def spareR : List Value := [.string ⟨#[]⟩, .int .i64 77, .int .i64 0, .int .i64 0, .string ⟨#[]⟩]
def spareQ : List Value := [.string ⟨#[]⟩, .int .i64 77, .int .i64 0]

/-- A list of its own, with spare room behind it. -/
def RoomR (w : World) (N : Nat) (v : Value) (l : List RI) : Prop := ∃ g, v = .slice (some ⟨g, 0, none⟩) l.length (l.length + 1) ∧ N ≤ g ∧ w.heap[g]? = some (.cells (rcI l ++ spareR).toArray 62 (0, 0))
def RoomQ (w : World) (N : Nat) (v : Value) (l : List QI) : Prop := ∃ g, v = .slice (some ⟨g, 0, none⟩) l.length (l.length + 1) ∧ N ≤ g ∧ w.heap[g]? = some (.cells (qcI l ++ spareQ).toArray 45 (0, 0))

theorem RowAt.addr {w : World} {N : Nat} {a : Option Addr} {xs : List Value} (h : RowAt w N a xs) : xs ≠ [] → ∃ ad, a = some ad ∧ ∀ j v, xs[j]? = some v → w.cell? (ad.add j) = some v := by
  intro hx
  obtain ⟨b, o, h1, _, h3⟩ := h hx
  refine ⟨⟨b, o, none⟩, h1, fun j v hv => ?_⟩
  have hadd : (⟨b, o, none⟩ : Addr).add j = ⟨b, o + j, none⟩ := by unfold Addr.add; split <;> simp_all
  rw [hadd]
  exact h3 j v hv

theorem made_tail (z : Array Value) (n k : Nat) (hk : z.size = k) (hp : 0 < k) : (madeCells z ((n + 1) * k)).toList.drop (n * k) = z.toList := by
  subst hk
  apply List.ext_getElem?
  intro i
  rw [List.getElem?_drop, Array.getElem?_toList, Array.getElem?_toList]
  unfold madeCells
  by_cases c : i < z.size
  · have h1 : n * z.size + i < (n + 1) * z.size := by rw [Nat.add_mul, Nat.one_mul]; omega
    have h2 : (n * z.size + i) % z.size = i := by rw [Nat.mul_comm, Nat.mul_add_mod]; exact Nat.mod_eq_of_lt c
    simp [h1, h2, c]
  · have h1 : ¬ (n * z.size + i < (n + 1) * z.size) := by rw [Nat.add_mul, Nat.one_mul]; omega
    simp [h1, c]

end Go.Proofs.Ytgpgllbakfgocaa
