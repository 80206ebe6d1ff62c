/-
  For every message the law Serials returns true (the program's Serialize and the document's own give the same bytes or the same error; what was handed in reads as it did, spare room too), and the message reads behind the call as it read before: with no condition on the message.
-/
import Derived.Test.YtdhobdmhnocbgaaRows
import Derived.Test.YtdhobdmhnocbgaaQLawK
import Derived.ProofKit
import Derived.Deep.Slices
import Derived.SizedLaws
namespace Go.Proofs.Ytdhobdmhnocbgaa
open Go.ChangeShapes Go.WideShapes Go.ChangeAt Go.RowKit Go.Deep Zr
set_option maxRecDepth 10000

theorem Try.ownS : ownKnob Try.prog.godebug = none := by kernel_rfl
theorem Try.laidOutS : laidOutB Try.prog = true := by kernel_rfl

instance : Inhabited QI := ⟨⟨⟨#[]⟩, 0, 0⟩⟩
instance : Inhabited RI := ⟨⟨⟨#[]⟩, 0, 0, 0, ⟨#[]⟩⟩⟩

theorem cell_lt {w : World} {a : Addr} {v : Value} (h : w.cell? a = some v) : a.block < w.heap.size := by
  rcases Nat.lt_or_ge a.block w.heap.size with hb | hb
  · exact hb
  · simp [World.cell?, hb] at h

theorem add_at (b o k : Nat) : (Addr.mk b o none).add k = ⟨b, o + k, none⟩ := by
  unfold Addr.add
  split
  · next h => subst h; rfl
  · rfl

theorem weights_all {H : Type} {P : Program} {e : TypeId} {d : DataW H} {n : Nat} : ∀ {l : List (DataW H)}, d ∈ l → n ∈ d.weights P e → n ∈ DataW.weightsAll P e l
  | [], h, _ => by simp at h
  | x :: l, h, hn => by
    simp only [DataW.weightsAll, List.mem_append]
    rcases List.mem_cons.1 h with rfl | h
    · exact .inl hn
    · exact .inr (weights_all h hn)

theorem weights_str {H : Type} {P : Program} {t : TypeId} (s : ByteArray) : s.size ∈ (DataW.lit (.string s.data.toList) : DataW H).weights P t := by
  rw [DataW.weights]
  simp

theorem cellsQ : Try.prog.cellsOf 74 = 3 := by kernel_rfl
theorem cellsR : Try.prog.cellsOf 86 = 5 := by kernel_rfl
theorem cellsI : Try.prog.cellsOf 3 = 1 := by kernel_rfl
theorem cellsS : Try.prog.cellsOf 9 = 1 := by kernel_rfl
theorem cellsQs : Try.prog.cellsOf 22 = 1 := by kernel_rfl
theorem cellsRs : Try.prog.cellsOf 23 = 1 := by kernel_rfl
theorem bytesQ : Try.prog.bytesOf 74 = 32 := by kernel_rfl
theorem bytesR : Try.prog.bytesOf 86 = 56 := by kernel_rfl

section
variable {H : Type} {enc : TypeId × Value → H} {W : World}

theorem open_q {fuel : Nat} {cs : List Value} {x : DataW H × List MemPlace} (h : DataW.trod enc Try.prog W 0 (fun _ => true) true fuel 74 cs = some x) :
    ∃ q : QI, cs = [.string q.name, .int .i64 q.ty, .int .i64 q.cl] ∧ q.name.size ∈ x.1.weights Try.prog 74 := by
  obtain ⟨xs, n, _, rfl, hl, hxl, hf⟩ := DataW.trod_struct Try.underlying74 h
  rw [cellsQ] at hl
  obtain ⟨c0, c1, c2, rfl⟩ : ∃ c0 c1 c2, cs = [c0, c1, c2] := by
    match cs, hl with
    | [c0, c1, c2], _ => exact ⟨c0, c1, c2, rfl⟩
  obtain ⟨y0, y1, y2, rfl⟩ : ∃ y0 y1 y2, xs = [y0, y1, y2] := by
    match xs, hxl with
    | [y0, y1, y2], _ => exact ⟨y0, y1, y2, rfl⟩
  have g0 : DataW.trod enc Try.prog W 0 (fun _ => true) true n 9 (([c0, c1, c2].drop 0).take (Try.prog.cellsOf 9)) = some y0 := hf 0 _ rfl
  have g1 : DataW.trod enc Try.prog W 0 (fun _ => true) true n 3 (([c0, c1, c2].drop 1).take (Try.prog.cellsOf 3)) = some y1 := hf 1 _ rfl
  have g2 : DataW.trod enc Try.prog W 0 (fun _ => true) true n 3 (([c0, c1, c2].drop 2).take (Try.prog.cellsOf 3)) = some y2 := hf 2 _ rfl
  simp only [cellsI, cellsS, List.drop, List.take] at g0 g1 g2
  obtain ⟨s, e0, rfl, _⟩ := DataW.trod_string Try.underlying9 g0
  obtain ⟨t, e1, rfl, _⟩ := DataW.trod_int Try.underlying3 g1
  obtain ⟨u, e2, rfl, _⟩ := DataW.trod_int Try.underlying3 g2
  simp only [List.cons.injEq, and_true] at e0 e1 e2
  subst e0 e1 e2
  refine ⟨⟨s, t, u⟩, rfl, ?_⟩
  rw [DataW.weights, Try.underlying74]
  exact DataW.weights_mem_each (j := 0) (t := 9) (d := .lit (.string s.data.toList)) rfl rfl _ (weights_str s)

theorem open_r {fuel : Nat} {cs : List Value} {x : DataW H × List MemPlace} (h : DataW.trod enc Try.prog W 0 (fun _ => true) true fuel 86 cs = some x) :
    ∃ q : RI, cs = [.string q.name, .int .i64 q.ty, .int .i64 q.cl, .int .i64 q.ttl, .string q.data] ∧ q.name.size ∈ x.1.weights Try.prog 86 ∧ q.data.size ∈ x.1.weights Try.prog 86 := by
  obtain ⟨xs, n, _, rfl, hl, hxl, hf⟩ := DataW.trod_struct Try.underlying86 h
  rw [cellsR] at hl
  obtain ⟨c0, c1, c2, c3, c4, rfl⟩ : ∃ c0 c1 c2 c3 c4, cs = [c0, c1, c2, c3, c4] := by
    match cs, hl with
    | [c0, c1, c2, c3, c4], _ => exact ⟨c0, c1, c2, c3, c4, rfl⟩
  obtain ⟨y0, y1, y2, y3, y4, rfl⟩ : ∃ y0 y1 y2 y3 y4, xs = [y0, y1, y2, y3, y4] := by
    match xs, hxl with
    | [y0, y1, y2, y3, y4], _ => exact ⟨y0, y1, y2, y3, y4, rfl⟩
  have g0 : DataW.trod enc Try.prog W 0 (fun _ => true) true n 9 (([c0, c1, c2, c3, c4].drop 0).take (Try.prog.cellsOf 9)) = some y0 := hf 0 _ rfl
  have g1 : DataW.trod enc Try.prog W 0 (fun _ => true) true n 3 (([c0, c1, c2, c3, c4].drop 1).take (Try.prog.cellsOf 3)) = some y1 := hf 1 _ rfl
  have g2 : DataW.trod enc Try.prog W 0 (fun _ => true) true n 3 (([c0, c1, c2, c3, c4].drop 2).take (Try.prog.cellsOf 3)) = some y2 := hf 2 _ rfl
  have g3 : DataW.trod enc Try.prog W 0 (fun _ => true) true n 3 (([c0, c1, c2, c3, c4].drop 3).take (Try.prog.cellsOf 3)) = some y3 := hf 3 _ rfl
  have g4 : DataW.trod enc Try.prog W 0 (fun _ => true) true n 9 (([c0, c1, c2, c3, c4].drop 4).take (Try.prog.cellsOf 9)) = some y4 := hf 4 _ rfl
  simp only [cellsI, cellsS, List.drop, List.take] at g0 g1 g2 g3 g4
  obtain ⟨s, e0, rfl, _⟩ := DataW.trod_string Try.underlying9 g0
  obtain ⟨t, e1, rfl, _⟩ := DataW.trod_int Try.underlying3 g1
  obtain ⟨u, e2, rfl, _⟩ := DataW.trod_int Try.underlying3 g2
  obtain ⟨v, e3, rfl, _⟩ := DataW.trod_int Try.underlying3 g3
  obtain ⟨z, e4, rfl, _⟩ := DataW.trod_string Try.underlying9 g4
  simp only [List.cons.injEq, and_true] at e0 e1 e2 e3 e4
  subst e0 e1 e2 e3 e4
  refine ⟨⟨s, t, u, v, z⟩, rfl, ?_⟩
  rw [DataW.weights, Try.underlying86]
  exact ⟨DataW.weights_mem_each (j := 0) (t := 9) (d := .lit (.string s.data.toList)) rfl rfl _ (weights_str s), DataW.weights_mem_each (j := 4) (t := 9) (d := .lit (.string z.data.toList)) rfl rfl _ (weights_str z)⟩

theorem open_qs {fuel : Nat} {v : Value} {x : DataW H × List MemPlace} (h : DataW.trod enc Try.prog W 0 (fun _ => true) true fuel 22 [v] = some x) :
    ∃ (a : Option Addr) (l : List QI) (c : Nat), v = .slice a l.length c ∧ l.length ≤ c ∧ RowAt W W.heap.size a (qcI l) ∧
      ((x.1.weights Try.prog 22).all (· ≤ reachBytes) = true → QSized l ∧ l.length * 32 ≤ 140737488351232) := by
  rcases open_slice Try.underlying22 h with ⟨h0, _⟩ | ⟨a, len, cap, m, n, D, Pl, hc, _, hl, _, hm, rfl, hel⟩
  · simp only [List.cons.injEq, and_true] at h0
    exact ⟨none, [], 0, h0, Nat.le_refl _, fun hx => absurd rfl hx, fun _ => ⟨fun i hi => by simp at hi, by decide⟩⟩
  · simp only [List.cons.injEq, and_true] at hc
    simp only [if_true] at hm
    subst hm
    have hel' : ∀ i, i < m → ∃ q : QI, W.cells? 0 (a.add (i * 3)) 3 = some [.string q.name, .int .i64 q.ty, .int .i64 q.cl] ∧ q.name.size ∈ (D i).weights Try.prog 74 := by
      intro i hi
      obtain ⟨cs', h1, h2⟩ := hel i hi
      rw [cellsQ] at h1
      obtain ⟨q, rfl, h3⟩ := open_q h2
      exact ⟨q, h1, h3⟩
    obtain ⟨f, hf⟩ := choose_lt hel'
    have hll : ((List.range len).map f).length = len := by simp
    refine ⟨some a, (List.range len).map f, m, by rw [hll]; exact hc, by rw [hll]; exact hl, ?_, ?_⟩
    · intro hne
      have hpos : 0 < len := by
        rcases Nat.eq_zero_or_pos len with h0 | h0
        · subst h0; exact absurd rfl hne
        · exact h0
      obtain ⟨b, o, spot⟩ := a
      have hspot : spot = none := by
        obtain ⟨_, _, hcell⟩ := World.cells?_some (hf 0 (by omega)).1
        have := hcell 0 (by omega)
        simpa [Addr.add] using World.cell?_spot this
      subst hspot
      have hcells : ∀ i, i < len → ∀ j, j < 3 → W.cell? ⟨b, o + (i * 3 + j), none⟩ = (qcI ((List.range len).map f))[i * 3 + j]? := by
        intro i hi j hj
        obtain ⟨_, _, hcell⟩ := World.cells?_some (hf i (by omega)).1
        have e := hcell j hj
        rw [add_add, add_at] at e
        rw [e]
        obtain ⟨q0, q1, q2⟩ := qcI_at ((List.range len).map f) i (by simpa using hi)
        match j, hj with
        | 0, _ => simpa using q0.symm
        | 1, _ => simpa using q1.symm
        | 2, _ => simpa using q2.symm
      have hlen : (qcI ((List.range len).map f)).length = len * 3 := by
        rw [qcI_len, hll]
      refine ⟨b, o, rfl, ?_, fun j u hu => ?_⟩
      · have e := hcells 0 hpos 0 (by omega)
        rw [List.getElem?_eq_getElem (by omega)] at e
        exact cell_lt e
      · have hj : j < len * 3 := by
          rw [← hlen]
          exact (List.getElem?_eq_some_iff.1 hu).1
        have e := hcells (j / 3) (by omega) (j % 3) (by omega)
        rw [show j / 3 * 3 + j % 3 = j by omega, hu] at e
        exact e
    · intro hw
      have hw' : ∀ y ∈ DataW.weights Try.prog 22 (.slice ((List.range len).map D) ((List.range (m - len)).map fun j => D (len + j)) : DataW H), y ≤ reachBytes := fun y hy => by
        simpa using List.all_eq_true.1 hw y hy
      simp only [DataW.weights, Try.underlying22, bytesQ, List.length_map, List.length_range] at hw'
      refine ⟨fun i hi => ?_, ?_⟩
      · have hi' : i < len := by simpa using hi
        have := hw' _ (List.mem_cons_of_mem _ (List.mem_append_left _ (weights_all (List.mem_map.2 ⟨i, List.mem_range.2 hi', rfl⟩) (hf i (by omega)).2)))
        simp only [List.getElem_map, List.getElem_range]
        unfold reachBytes at this
        omega
      · have := hw' _ (List.mem_cons_self ..)
        rw [hll]
        unfold reachBytes at this
        omega

theorem open_rs {fuel : Nat} {v : Value} {x : DataW H × List MemPlace} (h : DataW.trod enc Try.prog W 0 (fun _ => true) true fuel 23 [v] = some x) :
    ∃ (a : Option Addr) (l : List RI) (c : Nat), v = .slice a l.length c ∧ l.length ≤ c ∧ RowAt W W.heap.size a (rcI l) ∧
      ((x.1.weights Try.prog 23).all (· ≤ reachBytes) = true → RSized l ∧ l.length * 56 ≤ 140737488351232) := by
  rcases open_slice Try.underlying23 h with ⟨h0, _⟩ | ⟨a, len, cap, m, n, D, Pl, hc, _, hl, _, hm, rfl, hel⟩
  · simp only [List.cons.injEq, and_true] at h0
    exact ⟨none, [], 0, h0, Nat.le_refl _, fun hx => absurd rfl hx, fun _ => ⟨fun i hi => by simp at hi, by decide⟩⟩
  · simp only [List.cons.injEq, and_true] at hc
    simp only [if_true] at hm
    subst hm
    have hel' : ∀ i, i < m → ∃ q : RI, W.cells? 0 (a.add (i * 5)) 5 = some [.string q.name, .int .i64 q.ty, .int .i64 q.cl, .int .i64 q.ttl, .string q.data] ∧ q.name.size ∈ (D i).weights Try.prog 86 ∧ q.data.size ∈ (D i).weights Try.prog 86 := by
      intro i hi
      obtain ⟨cs', h1, h2⟩ := hel i hi
      rw [cellsR] at h1
      obtain ⟨q, rfl, h3⟩ := open_r h2
      exact ⟨q, h1, h3⟩
    obtain ⟨f, hf⟩ := choose_lt hel'
    have hll : ((List.range len).map f).length = len := by simp
    refine ⟨some a, (List.range len).map f, m, by rw [hll]; exact hc, by rw [hll]; exact hl, ?_, ?_⟩
    · intro hne
      have hpos : 0 < len := by
        rcases Nat.eq_zero_or_pos len with h0 | h0
        · subst h0; exact absurd rfl hne
        · exact h0
      obtain ⟨b, o, spot⟩ := a
      have hspot : spot = none := by
        obtain ⟨_, _, hcell⟩ := World.cells?_some (hf 0 (by omega)).1
        have := hcell 0 (by omega)
        simpa [Addr.add] using World.cell?_spot this
      subst hspot
      have hcells : ∀ i, i < len → ∀ j, j < 5 → W.cell? ⟨b, o + (i * 5 + j), none⟩ = (rcI ((List.range len).map f))[i * 5 + j]? := by
        intro i hi j hj
        obtain ⟨_, _, hcell⟩ := World.cells?_some (hf i (by omega)).1
        have e := hcell j hj
        rw [add_add, add_at] at e
        rw [e]
        obtain ⟨q0, q1, q2, q3, q4⟩ := rcI_at ((List.range len).map f) i (by simpa using hi)
        match j, hj with
        | 0, _ => simpa using q0.symm
        | 1, _ => simpa using q1.symm
        | 2, _ => simpa using q2.symm
        | 3, _ => simpa using q3.symm
        | 4, _ => simpa using q4.symm
      have hlen : (rcI ((List.range len).map f)).length = len * 5 := by
        rw [rcI_len, hll]
      refine ⟨b, o, rfl, ?_, fun j u hu => ?_⟩
      · have e := hcells 0 hpos 0 (by omega)
        rw [List.getElem?_eq_getElem (by omega)] at e
        exact cell_lt e
      · have hj : j < len * 5 := by
          rw [← hlen]
          exact (List.getElem?_eq_some_iff.1 hu).1
        have e := hcells (j / 5) (by omega) (j % 5) (by omega)
        rw [show j / 5 * 5 + j % 5 = j by omega, hu] at e
        exact e
    · intro hw
      have hw' : ∀ y ∈ DataW.weights Try.prog 23 (.slice ((List.range len).map D) ((List.range (m - len)).map fun j => D (len + j)) : DataW H), y ≤ reachBytes := fun y hy => by
        simpa using List.all_eq_true.1 hw y hy
      simp only [DataW.weights, Try.underlying23, bytesR, List.length_map, List.length_range] at hw'
      refine ⟨fun i hi => ?_, ?_⟩
      · have hi' : i < len := by simpa using hi
        have h1 := hw' _ (List.mem_cons_of_mem _ (List.mem_append_left _ (weights_all (List.mem_map.2 ⟨i, List.mem_range.2 hi', rfl⟩) (hf i (by omega)).2.1)))
        have h2 := hw' _ (List.mem_cons_of_mem _ (List.mem_append_left _ (weights_all (List.mem_map.2 ⟨i, List.mem_range.2 hi', rfl⟩) (hf i (by omega)).2.2)))
        simp only [List.getElem_map, List.getElem_range]
        unfold reachBytes at h1 h2
        omega
      · have := hw' _ (List.mem_cons_self ..)
        rw [hll]
        unfold reachBytes at this
        omega

theorem open_msg {fuel : Nat} {cs : List Value} {x : DataW H × List MemPlace} (h : DataW.trod enc Try.prog W 0 (fun _ => true) true fuel 25 cs = some x)
    (hw : (x.1.weights Try.prog 25).all (· ≤ reachBytes) = true) : ∃ m : MI, MsgAt W W.heap.size (.agg cs.toArray) m ∧ Lens m := by
  obtain ⟨xs, n, _, rfl, hl, hxl, hf⟩ := DataW.trod_struct Try.underlying25 h
  rw [show Try.prog.cellsOf 25 = 6 by kernel_rfl] at hl
  obtain ⟨c0, c1, c2, c3, c4, c5, rfl⟩ : ∃ c0 c1 c2 c3 c4 c5, cs = [c0, c1, c2, c3, c4, c5] := by
    match cs, hl with
    | [c0, c1, c2, c3, c4, c5], _ => exact ⟨c0, c1, c2, c3, c4, c5, rfl⟩
  obtain ⟨y0, y1, y2, y3, y4, y5, rfl⟩ : ∃ y0 y1 y2 y3 y4 y5, xs = [y0, y1, y2, y3, y4, y5] := by
    match xs, hxl with
    | [y0, y1, y2, y3, y4, y5], _ => exact ⟨y0, y1, y2, y3, y4, y5, rfl⟩
  have g0 : DataW.trod enc Try.prog W 0 (fun _ => true) true n 3 (([c0, c1, c2, c3, c4, c5].drop 0).take (Try.prog.cellsOf 3)) = some y0 := hf 0 _ rfl
  have g1 : DataW.trod enc Try.prog W 0 (fun _ => true) true n 3 (([c0, c1, c2, c3, c4, c5].drop 1).take (Try.prog.cellsOf 3)) = some y1 := hf 1 _ rfl
  have g2 : DataW.trod enc Try.prog W 0 (fun _ => true) true n 22 (([c0, c1, c2, c3, c4, c5].drop 2).take (Try.prog.cellsOf 22)) = some y2 := hf 2 _ rfl
  have g3 : DataW.trod enc Try.prog W 0 (fun _ => true) true n 23 (([c0, c1, c2, c3, c4, c5].drop 3).take (Try.prog.cellsOf 23)) = some y3 := hf 3 _ rfl
  have g4 : DataW.trod enc Try.prog W 0 (fun _ => true) true n 23 (([c0, c1, c2, c3, c4, c5].drop 4).take (Try.prog.cellsOf 23)) = some y4 := hf 4 _ rfl
  have g5 : DataW.trod enc Try.prog W 0 (fun _ => true) true n 23 (([c0, c1, c2, c3, c4, c5].drop 5).take (Try.prog.cellsOf 23)) = some y5 := hf 5 _ rfl
  simp only [cellsI, cellsQs, cellsRs, List.drop, List.take] at g0 g1 g2 g3 g4 g5
  obtain ⟨id, e0, rfl, _⟩ := DataW.trod_int Try.underlying3 g0
  obtain ⟨fl, e1, rfl, _⟩ := DataW.trod_int Try.underlying3 g1
  simp only [List.cons.injEq, and_true] at e0 e1
  subst e0 e1
  obtain ⟨a1, q, k1, rfl, n1, r1, z1⟩ := open_qs g2
  obtain ⟨a2, a, k2, rfl, n2, r2, z2⟩ := open_rs g3
  obtain ⟨a3, u, k3, rfl, n3, r3, z3⟩ := open_rs g4
  obtain ⟨a4, xx, k4, rfl, n4, r4, z4⟩ := open_rs g5
  simp only [DataW.weights, Try.underlying25, List.map_cons, List.map_nil, DataW.weightsEach, List.nil_append, List.append_nil, List.all_append, Bool.and_eq_true] at hw
  obtain ⟨w1, w2, w3, w4⟩ := hw
  obtain ⟨z1, l1⟩ := z1 w1
  obtain ⟨z2, l2⟩ := z2 w2
  obtain ⟨z3, l3⟩ := z3 w3
  obtain ⟨z4, l4⟩ := z4 w4
  exact ⟨⟨id, fl, q, a, u, xx⟩, ⟨a1, k1, a2, k2, a3, k3, a4, k4, rfl, r1, r2, r3, r4, z1, z2, z3, z4, n1, n2, n3, n4⟩, l1, l2, l3, l4⟩

end

set_option maxRecDepth 100000 in
theorem serials_lifted (os : Os) (started : os.Started) (H : Type) (enc : TypeId × Value → H) :
    ReturnsInHanded {} Try.checked os 4 .any (Rows.serialsSpec.pre6 enc Try.prog Try.f4 Rows.serialsRow.domain false) (Rows.serialsSpec.post enc Try.prog Try.f4 false true false false) := by
  refine returnsInHanded_of_change_sized (C := Try.checked) Try.ownS started (by kernel_rfl) Try.func4
    (ChangeSpec.witness6 (enc := enc) (C := Try.checked) false ⟨#[], #[.agg #[.int .i64 0, .int .i64 0, .slice none 0 0, .slice none 0 0, .slice none 0 0, .slice none 0 0]], []⟩ 8 (by kernel_rfl) (by kernel_rfl) (by kernel_rfl) (by kernel_rfl)) ?_
  intro W base args ds gs before hval0 hW hcnd hsz0 _
  have hsz : (DataW.weightsEach Try.prog (Try.f4.params.toList ++ Rows.serialsSpec.plain.varTypes Try.prog) (ds ++ gs)).all (· ≤ reachBytes) = true := hsz0
  clear hsz0
  have hval : ∀ (j : Nat) t v, Try.f4.params[j]? = some t → args[j]? = some v → Value.okWide Try.prog W .any base t v := hval0
  have hW' := hW
  obtain ⟨p, q, hA0, hV, rfl, hfz, hnd⟩ := hW
  have hA : DataW.TrodAll enc Try.prog W 0 (fun _ => true) true Try.f4.params.toList args.toList ds p := hA0
  rw [Try.params4] at hA hval hsz
  obtain ⟨v0, d0, rfl, rfl, h0⟩ := trodAll_one hA
  obtain ⟨rfl, rfl⟩ := trodVars_none hV
  have h0k := h0
  obtain ⟨fuel, hf⟩ := h0
  obtain ⟨cs, rfl, hcs⟩ := okWide_struct Try.underlying25 (hval 0 25 v0 rfl rfl)
  clear hA0 hval0
  simp only [List.append_nil] at hW'
  have hlt : ∀ x ∈ p, x.block < W.heap.size := fun x hx => by simpa using hW'.lt x hx
  obtain ⟨m, hm, hlens⟩ := open_msg hf (List.all_eq_true.2 fun y hy => List.all_eq_true.1 hsz y (DataW.weights_mem_each (j := 0) rfl rfl y hy))
  refine (serials_any m _ W (by simpa [Value.cells] using hm) hlens).mono fun e W' ⟨he, hw⟩ => ?_
  subst he
  have hargs : DataW.Trod enc Try.prog W' 0 (fun b => decide (b < W.heap.size)) true 25 (.agg cs) d0 p :=
    Below.trod Try.laidOutS (by kernel_rfl) (of_decide_eq_true (by kernel_rfl)) h0k hw hlt
  exact ⟨_, rfl, _, _, _, [], p, [], hW', trodAll_mk1 (shut_bool Try.underlying4 true), trodAll_mk1 hargs, rfl, hw.frame _, fun h => by cases h⟩

theorem serials_holds : Rows.SerialsSaid :=
  OpenClaim.holds_of_wide 4 Try.f4 rfl rfl rfl rfl rfl rfl rfl ⟨rfl, rfl, rfl, rfl, rfl⟩ rfl rfl rfl rfl rfl (by kernel_rfl) Try.func4 (by kernel_rfl)
    (of_decide_eq_true (by kernel_rfl)) (by unfold Func.isWrapper; first | (rw [if_pos (by decide +kernel)]; kernel_rfl) | (rw [if_neg (by decide +kernel)]; exact ⟨rfl, rfl⟩))
    (fun os started H enc _ => serials_lifted os started H enc)

end Go.Proofs.Ytdhobdmhnocbgaa
