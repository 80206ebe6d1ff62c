/-
  Walks over the law: lists of news with spare room behind them; Folds.
-/
/-
  News that are handed in, opened; what a bound on the bulk gives.
-/
/-
  News that are handed in, opened, whatever their bulk.
-/
import Derived.Test.YtdhobdmhnocbgabGreatSZwG
import Derived.Test.YtdhobdmhnocbgabGreatSLawI
import Derived.Test.YtdhobdmhnocbgabGreatRows
import Derived.ProofKit
import Derived.JoinedCond
import Derived.Deep.Slices
namespace Go.Proofs.YtdhobdmhnocbgabGreat
open Go.RowKit Zr

/-- A list of news with spare room behind it: one more, whose first field is 77. -/
def RoomE (w : World) (N : Nat) (v : Value) (l : List Ev) : Prop :=
  ∃ g, v = .slice (some ⟨g, 0, none⟩) l.length (l.length + 1) ∧ N ≤ g ∧ w.heap[g]? = some (.cells (evC l ++ ([Value.int .i64 77, Value.string ⟨#[]⟩, Value.int .i64 0, Value.string ⟨#[]⟩, Value.int .i64 0, Value.string ⟨#[]⟩, Value.string ⟨#[]⟩] : List Value)).toArray 56 (0, 0))

theorem RoomE.row {w : World} {N : Nat} {v : Value} {l : List Ev} (h : RoomE w N v l) : ∃ g, v = .slice (some ⟨g, 0, none⟩) l.length (l.length + 1) ∧ N ≤ g ∧ g < w.heap.size ∧ RowAt w w.heap.size (some ⟨g, 0, none⟩) (evC l) := by
  obtain ⟨g, h1, h2, h3⟩ := h
  refine ⟨g, h1, h2, blk_lt h3, fun _ => ⟨g, 0, rfl, blk_lt h3, fun j u hu => ?_⟩⟩
  rw [Nat.zero_add, cell_of_blk h3]
  have hj := (List.getElem?_eq_some_iff.1 hu).1
  rw [List.getElem?_toArray, List.getElem?_append_left hj]
  exact hu
theorem RoomE.below {w w' : World} {N : Nat} {v : Value} {l : List Ev} (h : RoomE w N v l) (hb : Below w.heap.size w w') : RoomE w' N v l := by
  obtain ⟨g, h1, h2, h3⟩ := h
  exact ⟨g, h1, h2, (hb.block g (blk_lt h3)).trans h3⟩

end Go.Proofs.YtdhobdmhnocbgabGreat

namespace Go.Proofs.YtdhobdmhnocbgabGreat
open Go.ChangeShapes Go.WideShapes Go.ChangeAt Go.RowKit Go.Deep Zr

theorem Tryz.ownE : ownKnob Tryz.prog.godebug = none := by kernel_rfl
theorem Tryz.laidOutE : laidOutB Tryz.prog = true := by kernel_rfl

theorem add_atE (b o k : Nat) : (Addr.mk b o none).add k = ⟨b, o + k, none⟩ := by
  unfold Addr.add
  split
  · next h => subst h; rfl
  · rfl
theorem cell_inE {w : World} {a : Addr} {v : Value} (h : w.cell? a = some v) : a.block < w.heap.size := by
  rcases Nat.lt_or_ge a.block w.heap.size with hb | hb
  · exact hb
  · simp [World.cell?, hb] at h

theorem cellsE : Tryz.prog.cellsOf 56 = 7 := by kernel_rfl
theorem cellsIE : Tryz.prog.cellsOf 3 = 1 := by kernel_rfl
theorem cellsSE : Tryz.prog.cellsOf 9 = 1 := by kernel_rfl

section
variable {H : Type} {enc : TypeId × Value → H} {W : World}

end
end Go.Proofs.YtdhobdmhnocbgabGreat

namespace Go.Proofs.YtdhobdmhnocbgabGreat
open Go.ChangeShapes Go.WideShapes Go.ChangeAt Go.RowKit Go.Deep Zr

section
variable {H : Type} {enc : TypeId × Value → H} {W : World}

set_option maxRecDepth 10000 in
theorem open_ew {fuel : Nat} {cs : List Value} {x : DataW H × List MemPlace} (h : DataW.trod enc Tryz.prog W 0 (fun _ => true) true fuel 56 cs = some x) :
    ∃ q : Ev, cs = ev7 q ∧ q.node.size ≤ maxLen ∧ q.addr.size ≤ maxLen ∧ q.text.size ≤ maxLen ∧ q.alias.size ≤ maxLen := by
  obtain ⟨xs, n, _, rfl, hl, hxl, hf⟩ := DataW.trod_struct Tryz.underlying56 h
  rw [cellsE] at hl
  obtain ⟨c0, c1, c2, c3, c4, c5, c6, rfl⟩ : ∃ c0 c1 c2 c3 c4 c5 c6, cs = [c0, c1, c2, c3, c4, c5, c6] := by
    match cs, hl with
    | [c0, c1, c2, c3, c4, c5, c6], _ => exact ⟨c0, c1, c2, c3, c4, c5, c6, rfl⟩
  obtain ⟨y0, y1, y2, y3, y4, y5, y6, rfl⟩ : ∃ y0 y1 y2 y3 y4 y5 y6, xs = [y0, y1, y2, y3, y4, y5, y6] := by
    match xs, hxl with
    | [y0, y1, y2, y3, y4, y5, y6], _ => exact ⟨y0, y1, y2, y3, y4, y5, y6, rfl⟩
  have g0 : DataW.trod enc Tryz.prog W 0 (fun _ => true) true n 3 (([c0, c1, c2, c3, c4, c5, c6].drop 0).take (Tryz.prog.cellsOf 3)) = some y0 := hf 0 _ rfl
  have g1 : DataW.trod enc Tryz.prog W 0 (fun _ => true) true n 9 (([c0, c1, c2, c3, c4, c5, c6].drop 1).take (Tryz.prog.cellsOf 9)) = some y1 := hf 1 _ rfl
  have g2 : DataW.trod enc Tryz.prog W 0 (fun _ => true) true n 3 (([c0, c1, c2, c3, c4, c5, c6].drop 2).take (Tryz.prog.cellsOf 3)) = some y2 := hf 2 _ rfl
  have g3 : DataW.trod enc Tryz.prog W 0 (fun _ => true) true n 9 (([c0, c1, c2, c3, c4, c5, c6].drop 3).take (Tryz.prog.cellsOf 9)) = some y3 := hf 3 _ rfl
  have g4 : DataW.trod enc Tryz.prog W 0 (fun _ => true) true n 3 (([c0, c1, c2, c3, c4, c5, c6].drop 4).take (Tryz.prog.cellsOf 3)) = some y4 := hf 4 _ rfl
  have g5 : DataW.trod enc Tryz.prog W 0 (fun _ => true) true n 9 (([c0, c1, c2, c3, c4, c5, c6].drop 5).take (Tryz.prog.cellsOf 9)) = some y5 := hf 5 _ rfl
  have g6 : DataW.trod enc Tryz.prog W 0 (fun _ => true) true n 9 (([c0, c1, c2, c3, c4, c5, c6].drop 6).take (Tryz.prog.cellsOf 9)) = some y6 := hf 6 _ rfl
  simp only [cellsIE, cellsSE, List.drop, List.take] at g0 g1 g2 g3 g4 g5 g6
  obtain ⟨v0, e0, rfl, _⟩ := DataW.trod_int Tryz.underlying3 g0
  obtain ⟨v1, e1, rfl, z1⟩ := DataW.trod_string Tryz.underlying9 g1
  obtain ⟨v2, e2, rfl, _⟩ := DataW.trod_int Tryz.underlying3 g2
  obtain ⟨v3, e3, rfl, z3⟩ := DataW.trod_string Tryz.underlying9 g3
  obtain ⟨v4, e4, rfl, _⟩ := DataW.trod_int Tryz.underlying3 g4
  obtain ⟨v5, e5, rfl, z5⟩ := DataW.trod_string Tryz.underlying9 g5
  obtain ⟨v6, e6, rfl, z6⟩ := DataW.trod_string Tryz.underlying9 g6
  simp only [List.cons.injEq, and_true] at e0 e1 e2 e3 e4 e5 e6
  subst e0 e1 e2 e3 e4 e5 e6
  exact ⟨⟨v0, v1, v2, v3, v4, v5, v6⟩, rfl, z1, z3, z5, z6⟩

/-- A list of news that is handed in. -/
theorem open_esw {fuel : Nat} {v : Value} {x : DataW H × List MemPlace} (h : DataW.trod enc Tryz.prog W 0 (fun _ => true) true fuel 22 [v] = some x) :
    ∃ (a : Option Addr) (l : List Ev) (c : Nat), v = .slice a l.length c ∧ l.length ≤ c ∧ RowAt W W.heap.size a (evC l) ∧ l.length ≤ maxLen ∧ ∀ i (h : i < l.length), l[i].node.size ≤ maxLen ∧ l[i].addr.size ≤ maxLen ∧ l[i].text.size ≤ maxLen ∧ l[i].alias.size ≤ maxLen := by
  rcases open_slice Tryz.underlying22 h with ⟨h0, _⟩ | ⟨a, len, cap, m, n, D, Pl, hc, _, hl, hcm, hm, rfl, hel⟩
  · simp only [List.cons.injEq, and_true] at h0
    exact ⟨none, [], 0, h0, Nat.le_refl _, fun hx => absurd rfl hx, by simp, fun i hi => by simp at hi⟩
  · simp only [List.cons.injEq, and_true] at hc
    simp only [if_true] at hm
    subst hm
    have hel' : ∀ i, i < m → ∃ q : Ev, W.cells? 0 (a.add (i * 7)) 7 = some (ev7 q) ∧ q.node.size ≤ maxLen ∧ q.addr.size ≤ maxLen ∧ q.text.size ≤ maxLen ∧ q.alias.size ≤ maxLen := by
      intro i hi
      obtain ⟨cs', h1, h2⟩ := hel i hi
      rw [cellsE] at h1
      obtain ⟨q, rfl, h3⟩ := open_ew h2
      exact ⟨q, h1, h3⟩
    obtain ⟨f, hf⟩ := choose_lt hel'
    have hll : ((List.range len).map f).length = len := by simp
    refine ⟨some a, (List.range len).map f, m, by rw [hll]; exact hc, by rw [hll]; exact hl, ?_, by rw [hll]; omega, fun i hi => ?_⟩
    · intro hne
      have hpos : 0 < len := by
        rcases Nat.eq_zero_or_pos len with h0 | h0
        · subst h0; exact absurd rfl hne
        · exact h0
      obtain ⟨b, o, spot⟩ := a
      have hspot : spot = none := by
        obtain ⟨_, _, hcell⟩ := World.cells?_some (hf 0 (by omega)).1
        have := hcell 0 (by decide)
        simpa [Addr.add] using World.cell?_spot this
      subst hspot
      have hcells : ∀ i, i < len → ∀ j, j < 7 → W.cell? ⟨b, o + (i * 7 + j), none⟩ = (evC ((List.range len).map f))[i * 7 + j]? := by
        intro i hi j hj
        obtain ⟨_, _, hcell⟩ := World.cells?_some (hf i (by omega)).1
        have e := hcell j hj
        rw [add_add, add_atE] at e
        rw [e]
        have hq := ev_cell ((List.range len).map f) i (by simpa using hi) j hj
        rw [hq]
        simp
      have hlen : (evC ((List.range len).map f)).length = len * 7 := by
        rw [evC_len, hll]
      refine ⟨b, o, rfl, ?_, fun j u hu => ?_⟩
      · have e := hcells 0 hpos 0 (by omega)
        rw [List.getElem?_eq_getElem (by omega)] at e
        exact cell_inE e
      · have hj : j < len * 7 := by
          rw [← hlen]
          exact (List.getElem?_eq_some_iff.1 hu).1
        have e := hcells (j / 7) (by omega) (j % 7) (by omega)
        rw [show j / 7 * 7 + j % 7 = j by omega, hu] at e
        exact e
    · have hi' : i < len := by simpa using hi
      have := (hf i (by omega)).2
      simp only [List.getElem_map, List.getElem_range]
      exact this

end
end Go.Proofs.YtdhobdmhnocbgabGreat
