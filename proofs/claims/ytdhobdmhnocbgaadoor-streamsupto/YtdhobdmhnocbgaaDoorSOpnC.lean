/-
  Chunks that are handed in, opened; what a bound on the bulk gives.
-/
import Derived.Test.YtdhobdmhnocbgaaDoorSOpn
import Derived.Test.YtdhobdmhnocbgaaDoorSStL
import Derived.Deep.Slices
namespace Go.Proofs.YtdhobdmhnocbgaaDoor
open Go.ChangeShapes Go.WideShapes Go.ChangeAt Go.RowKit Go.Deep Zr

theorem cellsC : Tryd.prog.cellsOf 30 = 3 := by kernel_rfl
theorem cellsIC : Tryd.prog.cellsOf 3 = 1 := by kernel_rfl
theorem cellsSC : Tryd.prog.cellsOf 9 = 1 := by kernel_rfl
theorem cellsBC : Tryd.prog.cellsOf 4 = 1 := by kernel_rfl

instance : Inhabited Ck := ⟨⟨0, ⟨#[]⟩, false⟩⟩

section
variable {H : Type} {enc : TypeId × Value → H} {W : World}

set_option maxRecDepth 10000 in
theorem open_c {fuel : Nat} {cs : List Value} {x : DataW H × List MemPlace} (h : DataW.trod enc Tryd.prog W 0 (fun _ => true) true fuel 30 cs = some x) :
    ∃ q : Ck, cs = ck3 q ∧ q.s.size + 1 ≤ Rows.uptoBulk x.1 ∧ -9223372036854775808 ≤ q.feed ∧ q.feed < 9223372036854775808 := by
  obtain ⟨xs, n, _, rfl, hl, hxl, hf⟩ := DataW.trod_struct Tryd.underlying30 h
  rw [cellsC] at hl
  obtain ⟨c0, c1, c2, rfl⟩ : ∃ c0 c1 c2, cs = [c0, c1, c2] := by
    match cs, hl with
    | [c0, c1, c2], _ => exact ⟨c0, c1, c2, rfl⟩
  obtain ⟨y0, y1, y2, rfl⟩ : ∃ y0 y1 y2, xs = [y0, y1, y2] := by
    match xs, hxl with
    | [y0, y1, y2], _ => exact ⟨y0, y1, y2, rfl⟩
  have g0 : DataW.trod enc Tryd.prog W 0 (fun _ => true) true n 3 (([c0, c1, c2].drop 0).take (Tryd.prog.cellsOf 3)) = some y0 := hf 0 _ rfl
  have g1 : DataW.trod enc Tryd.prog W 0 (fun _ => true) true n 9 (([c0, c1, c2].drop 1).take (Tryd.prog.cellsOf 9)) = some y1 := hf 1 _ rfl
  have g2 : DataW.trod enc Tryd.prog W 0 (fun _ => true) true n 4 (([c0, c1, c2].drop 2).take (Tryd.prog.cellsOf 4)) = some y2 := hf 2 _ rfl
  simp only [cellsIC, cellsSC, cellsBC, List.drop, List.take] at g0 g1 g2
  obtain ⟨v0, e0, rfl, w0⟩ := DataW.trod_int Tryd.underlying3 g0
  obtain ⟨v1, e1, rfl, _⟩ := DataW.trod_string Tryd.underlying9 g1
  obtain ⟨v2, e2, rfl⟩ := DataW.trod_bool Tryd.underlying4 g2
  simp only [List.cons.injEq, and_true] at e0 e1 e2
  subst e0 e1 e2
  unfold Lit.wf at w0
  rw [Bool.and_eq_true] at w0
  refine ⟨⟨v0, v1, v2⟩, rfl, ?_, of_decide_eq_true w0.1, ?_⟩
  · have b1 := bulk_str (H := H) v1
    simp only [List.map_cons, List.map_nil, Rows.uptoBulk, Rows.uptoBulkAll] at b1 ⊢
    omega
  · have h2 : v0 ≤ 9223372036854775807 := of_decide_eq_true w0.2
    show v0 < _
    omega

theorem bulk_app : ∀ l r : List (DataW H), Rows.uptoBulkAll (l ++ r) = Rows.uptoBulkAll l + Rows.uptoBulkAll r
  | [], r => by simp [Rows.uptoBulkAll]
  | x :: l, r => by
    simp only [List.cons_append, Rows.uptoBulkAll]
    rw [bulk_app l r]
    omega

theorem bulk_szC (D : Nat → DataW H) (f : Nat → Ck) : ∀ n, (∀ i, i < n → (f i).s.size + 1 ≤ Rows.uptoBulk (D i)) → n + szC ((List.range n).map f) ≤ Rows.uptoBulkAll ((List.range n).map D)
  | 0, _ => by simp [szC]
  | n + 1, h => by
    have ih := bulk_szC D f n fun i hi => h i (by omega)
    have hn := h n (by omega)
    rw [List.range_succ, List.map_append, List.map_append, bulk_app, szC_append]
    simp only [List.map_cons, List.map_nil, Rows.uptoBulkAll, szC]
    omega

/-- A script that is handed in. -/
theorem open_cs {fuel : Nat} {v : Value} {x : DataW H × List MemPlace} (h : DataW.trod enc Tryd.prog W 0 (fun _ => true) true fuel 23 [v] = some x) :
    ∃ (a : Option Addr) (l : List Ck) (c : Nat), v = .slice a l.length c ∧ l.length ≤ c ∧ RowAt W W.heap.size a (ckC l) ∧ l.length + szC l ≤ Rows.uptoBulk x.1 ∧ ∀ i (h : i < l.length), -9223372036854775808 ≤ l[i].feed ∧ l[i].feed < 9223372036854775808 := by
  rcases open_slice Tryd.underlying23 h with ⟨h0, _⟩ | ⟨a, len, cap, m, n, D, Pl, hc, _, hl, _, hm, rfl, hel⟩
  · simp only [List.cons.injEq, and_true] at h0
    exact ⟨none, [], 0, h0, Nat.le_refl _, fun hx => absurd rfl hx, Nat.zero_le _, fun i hi => by simp at hi⟩
  · simp only [List.cons.injEq, and_true] at hc
    simp only [if_true] at hm
    subst hm
    have hel' : ∀ i, i < m → ∃ q : Ck, W.cells? 0 (a.add (i * 3)) 3 = some (ck3 q) ∧ q.s.size + 1 ≤ Rows.uptoBulk (D i) ∧ -9223372036854775808 ≤ q.feed ∧ q.feed < 9223372036854775808 := by
      intro i hi
      obtain ⟨cs', h1, h2⟩ := hel i hi
      rw [cellsC] at h1
      obtain ⟨q, rfl, h3⟩ := open_c h2
      exact ⟨q, h1, h3⟩
    obtain ⟨f, hf⟩ := choose_lt hel'
    have hll : ((List.range len).map f).length = len := by simp
    refine ⟨some a, (List.range len).map f, m, by rw [hll]; exact hc, by rw [hll]; exact hl, ?_, ?_, fun i hi => ?_⟩
    · intro hne
      have hpos : 0 < len := by
        rcases Nat.eq_zero_or_pos len with h0 | h0
        · subst h0; exact absurd rfl hne
        · exact h0
      obtain ⟨b, o, spot⟩ := a
      have hspot : spot = none := by
        obtain ⟨_, _, hcell⟩ := World.cells?_some (hf 0 (by omega)).1
        have := hcell 0 (by decide)
        simpa [Addr.add] using World.cell?_spot this
      subst hspot
      have hcells : ∀ i, i < len → ∀ j, j < 3 → W.cell? ⟨b, o + (i * 3 + j), none⟩ = (ckC ((List.range len).map f))[i * 3 + j]? := by
        intro i hi j hj
        obtain ⟨_, _, hcell⟩ := World.cells?_some (hf i (by omega)).1
        have e := hcell j hj
        rw [add_add, addr_add] at e
        rw [e]
        have hq := ck_cell ((List.range len).map f) i (by simpa using hi) j hj
        rw [hq]
        simp
      have hlen : (ckC ((List.range len).map f)).length = len * 3 := by
        rw [ckC_len, hll]
      refine ⟨b, o, rfl, ?_, fun j u hu => ?_⟩
      · have e := hcells 0 hpos 0 (by omega)
        rw [List.getElem?_eq_getElem (by omega)] at e
        exact cell_in e
      · have hj : j < len * 3 := by
          rw [← hlen]
          exact (List.getElem?_eq_some_iff.1 hu).1
        have e := hcells (j / 3) (by omega) (j % 3) (by omega)
        rw [show j / 3 * 3 + j % 3 = j by omega, hu] at e
        exact e
    · rw [hll]
      simp only [Rows.uptoBulk]
      have := bulk_szC D f len fun i hi => (hf i (by omega)).2.1
      omega
    · have hi' : i < len := by simpa using hi
      simp only [List.getElem_map, List.getElem_range]
      exact (hf i (by omega)).2.2

end
end Go.Proofs.YtdhobdmhnocbgaaDoor
