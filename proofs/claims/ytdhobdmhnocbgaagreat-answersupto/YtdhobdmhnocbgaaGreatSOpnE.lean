/-
  Walks over the law: lists of news with spare room behind them; Folds.
-/
/-
  News that are handed in, opened; what a bound on the bulk gives.
-/
import Derived.Test.YtdhobdmhnocbgaaGreatSZwG
import Derived.Test.YtdhobdmhnocbgaaGreatSLawI
import Derived.Test.YtdhobdmhnocbgaaGreatRows
import Derived.ProofKit
import Derived.JoinedCond
import Derived.Deep.Slices
namespace Go.Proofs.YtdhobdmhnocbgaaGreat
open Go.RowKit Zr

/-- A list of news with spare room behind it: one more, whose first field is 77. -/
def RoomE (w : World) (N : Nat) (v : Value) (l : List Ev) : Prop :=
  ∃ g, v = .slice (some ⟨g, 0, none⟩) l.length (l.length + 1) ∧ N ≤ g ∧ w.heap[g]? = some (.cells (evC l ++ ([Value.int .i64 77, Value.string ⟨#[]⟩, Value.int .i64 0, Value.string ⟨#[]⟩, Value.int .i64 0, Value.string ⟨#[]⟩, Value.string ⟨#[]⟩] : List Value)).toArray 48 (0, 0))

theorem set_mark0 (pre : List Value) (x0 v : Value) (r : List Value) (n : Nat) (hn : pre.length = n) : ((pre ++ x0 :: r).toArray).setIfInBounds n v = (pre ++ v :: r).toArray := by
  subst hn
  apply Array.ext'
  simp
theorem at_mark0 (pre : List Value) (x0 : Value) (r : List Value) (n : Nat) (hn : pre.length = n) : ((pre ++ x0 :: r).toArray)[n]? = some x0 := by
  subst hn
  simp

set_option maxRecDepth 100000 in
set_option maxHeartbeats 1000000 in
theorem roomyEvents_any (l : List Ev) (a : Option Addr) (c N : Nat) (w : World) (hrow : RowAt w N a (evC l)) (hN : N ≤ w.heap.size) (hn : l.length ≤ 16777216) :
    Calls Tryz.prog 6 #[.slice a l.length c] w fun e w' => (∃ v, e = .returned v ∧ RoomE w' w.heap.size v l) ∧ Below w.heap.size w w' := by
  obtain ⟨i0, hi, hz0, hz1, hz2⟩ := info_parts Tryz.info48
  have Hi := hide hi
  have Hz0 := hide hz0
  have Hz1 := hide hz1
  have Hz2 := hide hz2
  have HRow := hide (fun W (hb : Below N w W) => hrow.below hb)
  clear hi hz0 hz1 hz2 hrow
  obtain ⟨n, hln⟩ : ∃ n, l.length = n := ⟨_, rfl⟩
  rw [hln] at hn ⊢
  have hcl := evC_len l
  rw [hln] at hcl
  have HCl := hide hcl
  have HLn := hide hln
  clear hcl hln
  go_enter Tryz.func6, Tryz.ntmps6
  have hmt := made_tail #[.int .i64 0, .string ⟨#[]⟩, .int .i64 0, .string ⟨#[]⟩, .int .i64 0, .string ⟨#[]⟩, .string ⟨#[]⟩] n 7 rfl (by decide)
  have hms : (madeCells #[.int .i64 0, .string ⟨#[]⟩, .int .i64 0, .string ⟨#[]⟩, .int .i64 0, .string ⟨#[]⟩, .string ⟨#[]⟩] ((n + 1) * 7)).size = (n + 1) * 7 := size_madeCells _ _
  have HMt := hide hmt
  have HMs := hide hms
  have HOne := hide (evC_one l)
  obtain ⟨g, hg⟩ : ∃ g, w.heap.size = g := ⟨_, rfl⟩
  clear hmt hms
  go_wp2_with (at_make; refine wpList_make_full _ rfl _ _ 22 rfl w.heap.size 48 i0 (.agg #[.int .i64 0, .string ⟨#[]⟩, .int .i64 0, .string ⟨#[]⟩, .int .i64 0, .string ⟨#[]⟩, .string ⟨#[]⟩]) 7 Tryz.underlying22 (unhide Hi) (unhide Hz0) (unhide Hz1) .i64 .i64 ((n : Int) + 1) ((n : Int) + 1) (n + 1) (by rfl) (by rfl) (by omega) (by omega) (by rw [unhide Hz2]; omega) (by unfold maxLen; omega) (Nat.le_refl _) ?_; intro w1 hown1 hgrow1; have hg1 := owns_full hown1; rw [hg, Array.toArray_toList] at hg1; have HG1 : Hid (w1.heap[g]? = some (.cells (madeCells #[.int .i64 0, .string ⟨#[]⟩, .int .i64 0, .string ⟨#[]⟩, .int .i64 0, .string ⟨#[]⟩, .string ⟨#[]⟩] ((n + 1) * 7)) 48 (0, 0))) := hg1; have hB1 : Below w.heap.size w w1 := ⟨hgrow1.os, hgrow1.tape, hgrow1.output, hgrow1.size, fun k hk => hgrow1.block k hk (by simp)⟩; clear hown1 hgrow1 hg1; rw [hg])
  have hfit : (evC l).length ≤ (madeCells #[.int .i64 0, .string ⟨#[]⟩, .int .i64 0, .string ⟨#[]⟩, .int .i64 0, .string ⟨#[]⟩, .string ⟨#[]⟩] ((n + 1) * 7)).size := by rw [unhide HCl, unhide HMs]; omega
  have hlen5 : (evC l).length = n * i0.size := by rw [unhide Hz1]; exact unhide HCl
  obtain ⟨w2, hw2⟩ : ∃ w2, w1.setRow g (evC l ++ (madeCells #[.int .i64 0, .string ⟨#[]⟩, .int .i64 0, .string ⟨#[]⟩, .int .i64 0, .string ⟨#[]⟩, .string ⟨#[]⟩] ((n + 1) * 7)).toList.drop (evC l).length).toArray = w2 := ⟨_, rfl⟩
  have hg2 := setRow_heap w1 g _ (evC l ++ (madeCells #[.int .i64 0, .string ⟨#[]⟩, .int .i64 0, .string ⟨#[]⟩, .int .i64 0, .string ⟨#[]⟩, .string ⟨#[]⟩] ((n + 1) * 7)).toList.drop (evC l).length).toArray 48 _ (unhide HG1)
  have hB2 := below_setRow hB1 (show w.heap.size ≤ g by omega) (evC l ++ (madeCells #[.int .i64 0, .string ⟨#[]⟩, .int .i64 0, .string ⟨#[]⟩, .int .i64 0, .string ⟨#[]⟩, .string ⟨#[]⟩] ((n + 1) * 7)).toList.drop (evC l).length).toArray
  rw [hw2] at hg2 hB2
  rw [run_copy_wide w1 22 22 3 48 i0 g (n + 1) (n + 1) a n c _ 48 (evC l) Tryz.underlying22 (unhide Hi) (unhide HG1) hlen5 (by omega) (unhide HRow _ (hB1.mono hN)).addr hfit (unhide HOne), hw2]
  have hg3 : w2.heap[g]? = some (.cells (evC l ++ ([Value.int .i64 0, Value.string ⟨#[]⟩, Value.int .i64 0, Value.string ⟨#[]⟩, Value.int .i64 0, Value.string ⟨#[]⟩, Value.string ⟨#[]⟩] : List Value)).toArray 48 (0, 0)) := by
    rw [hg2, unhide HCl, unhide HMt]
  have cc := (cell_of_blk hg3 (n * 7)).trans (at_mark0 _ _ _ _ (unhide HCl))
  have zz := frozen_of_blk hg3 (n * 7)
  have HG3 := hide hg3
  clear hg2 hg3 hfit hlen5 hB1 hw2
  go_wp2_with fail
  go_ret
  refine ⟨⟨_, rfl, g, by rw [unhide HLn]; rfl, by omega, ?_⟩, hB2.setCell (show w.heap.size ≤ g by omega) _⟩
  have hfin := blk_set (unhide HG3) (n * 7) (.int .i64 77)
  rw [set_mark0 _ _ _ _ _ (unhide HCl)] at hfin
  exact hfin

theorem RoomE.row {w : World} {N : Nat} {v : Value} {l : List Ev} (h : RoomE w N v l) : ∃ g, v = .slice (some ⟨g, 0, none⟩) l.length (l.length + 1) ∧ N ≤ g ∧ g < w.heap.size ∧ RowAt w w.heap.size (some ⟨g, 0, none⟩) (evC l) := by
  obtain ⟨g, h1, h2, h3⟩ := h
  refine ⟨g, h1, h2, blk_lt h3, fun _ => ⟨g, 0, rfl, blk_lt h3, fun j u hu => ?_⟩⟩
  rw [Nat.zero_add, cell_of_blk h3]
  have hj := (List.getElem?_eq_some_iff.1 hu).1
  rw [List.getElem?_toArray, List.getElem?_append_left hj]
  exact hu
theorem RoomE.below {w w' : World} {N : Nat} {v : Value} {l : List Ev} (h : RoomE w N v l) (hb : Below w.heap.size w w') : RoomE w' N v l := by
  obtain ⟨g, h1, h2, h3⟩ := h
  exact ⟨g, h1, h2, (hb.block g (blk_lt h3)).trans h3⟩

set_option maxRecDepth 100000 in
set_option maxHeartbeats 1000000 in
theorem sameEvents_true (l : List Ev) (a a' : Option Addr) (c c' N N' : Nat) (w : World) (h1 : RowAt w N a (evC l)) (h2 : RowAt w N' a' (evC l)) (hn : l.length ≤ 16777216) :
    Calls Tryz.prog 31 #[.slice a l.length c, .slice a' l.length c'] w fun e w' => e = .returned (.bool true) ∧ ∃ n, w' = w.drewN n := by
  have H1 := hide h1
  have H2 := hide h2
  clear h1 h2
  have hnn : ((l.length : Int) != (l.length : Int)) = false := by simp
  go_enter Tryz.func31, Tryz.ntmps31
  go_wp2_with fail
  go_loopw [5] (fun i w' => ∃ j m : Nat, j ≤ l.length ∧ i = .int .i64 j ∧ w' = w.drewN m) (fun i _ => l.length - (intOf i).toNat)
  case atStart => exact ⟨0, 0, Nat.zero_le _, rfl, rfl⟩
  case round =>
    obtain ⟨j, m, hj, rfl, rfl⟩ := hrel
    by_cases cj : j < l.length
    · obtain ⟨b, o, rfl, _, x0, x1, x2, x3, x4, x5, x6⟩ := row_e (unhide H1) j cj
      obtain ⟨b', o', rfl, _, y0, y1, y2, y3, y4, y5, y6⟩ := row_e (unhide H2) j cj
      generalize l[j] = k at *
      obtain ⟨kd, nd, ic, ad, pt, tx, al⟩ := k
      simp only at x0 x1 x2 x3 x4 x5 x6 y0 y1 y2 y3 y4 y5 y6
      go_wp2_with fail
      go_quiet (fail)
      go_wp2_with fail
      exact ⟨⟨j + 1, m + nq, by omega, by go_num, rfl⟩, by simp [intOf]; omega⟩
    · go_wp2_with fail
      go_ret
      exact ⟨rfl, m, rfl⟩

set_option maxRecDepth 100000 in
set_option maxHeartbeats 1000000 in
theorem wholeEvents_true (l : List Ev) (v : Value) (a : Option Addr) (c N N' : Nat) (w : World) (h : RoomE w N v l) (h2 : RowAt w N' a (evC l)) (hn : l.length ≤ 16777216) :
    Calls Tryz.prog 9 #[v, .slice a l.length c] w fun e w' => e = .returned (.bool true) ∧ Below w.heap.size w w' := by
  obtain ⟨g, rfl, _, hlt, hrow⟩ := h.row
  obtain ⟨g', e1, _, hg⟩ := h
  cases e1
  have Key := hide (sameEvents_true l (some ⟨g, 0, none⟩) a (l.length + 1) c w.heap.size N' w hrow h2 hn)
  have hc := (cell_of_blk hg (l.length * 7)).trans (at_mark0 _ _ _ _ (evC_len l))
  clear hrow h2 hg
  have h77 : ((77 : Int) == 77) = true := rfl
  go_enter Tryz.func9, Tryz.ntmps9
  go_wp2_with fail
  refine (unhide Key).mono ?_
  rintro e w1 ⟨rfl, n1, rfl⟩
  have hcc : (w.drewN n1).cell? ⟨g, l.length * 7, none⟩ = some (.int .i64 77) := hc
  generalize l.length = n at *
  go_wp2_with fail
  go_ret
  exact ⟨rfl, below_drewA (Below.refl _ _) _⟩

end Go.Proofs.YtdhobdmhnocbgaaGreat

namespace Go.Proofs.YtdhobdmhnocbgaaGreat
open Go.ChangeShapes Go.WideShapes Go.ChangeAt Go.RowKit Go.Deep Zr

theorem Tryz.ownE : ownKnob Tryz.prog.godebug = none := by kernel_rfl
theorem Tryz.laidOutE : laidOutB Tryz.prog = true := by kernel_rfl

theorem add_atE (b o k : Nat) : (Addr.mk b o none).add k = ⟨b, o + k, none⟩ := by
  unfold Addr.add
  split
  · next h => subst h; rfl
  · rfl
theorem cell_inE {w : World} {a : Addr} {v : Value} (h : w.cell? a = some v) : a.block < w.heap.size := by
  rcases Nat.lt_or_ge a.block w.heap.size with hb | hb
  · exact hb
  · simp [World.cell?, hb] at h

theorem cellsE : Tryz.prog.cellsOf 48 = 7 := by kernel_rfl
theorem cellsIE : Tryz.prog.cellsOf 3 = 1 := by kernel_rfl
theorem cellsSE : Tryz.prog.cellsOf 9 = 1 := by kernel_rfl

section
variable {H : Type} {enc : TypeId × Value → H} {W : World}

theorem bulk_strE (s : ByteArray) : Rows.uptoBulk (DataW.lit (H := H) (.string s.data.toList)) = s.size + 1 := by
  simp only [Rows.uptoBulk]
  rw [Array.length_toList]
  rfl

set_option maxRecDepth 10000 in
theorem open_e {fuel : Nat} {cs : List Value} {x : DataW H × List MemPlace} (h : DataW.trod enc Tryz.prog W 0 (fun _ => true) true fuel 48 cs = some x) :
    ∃ q : Ev, cs = ev7 q ∧ q.node.size + q.addr.size + q.text.size + q.alias.size + 1 ≤ Rows.uptoBulk x.1 := by
  obtain ⟨xs, n, _, rfl, hl, hxl, hf⟩ := DataW.trod_struct Tryz.underlying48 h
  rw [cellsE] at hl
  obtain ⟨c0, c1, c2, c3, c4, c5, c6, rfl⟩ : ∃ c0 c1 c2 c3 c4 c5 c6, cs = [c0, c1, c2, c3, c4, c5, c6] := by
    match cs, hl with
    | [c0, c1, c2, c3, c4, c5, c6], _ => exact ⟨c0, c1, c2, c3, c4, c5, c6, rfl⟩
  obtain ⟨y0, y1, y2, y3, y4, y5, y6, rfl⟩ : ∃ y0 y1 y2 y3 y4 y5 y6, xs = [y0, y1, y2, y3, y4, y5, y6] := by
    match xs, hxl with
    | [y0, y1, y2, y3, y4, y5, y6], _ => exact ⟨y0, y1, y2, y3, y4, y5, y6, rfl⟩
  have g0 : DataW.trod enc Tryz.prog W 0 (fun _ => true) true n 3 (([c0, c1, c2, c3, c4, c5, c6].drop 0).take (Tryz.prog.cellsOf 3)) = some y0 := hf 0 _ rfl
  have g1 : DataW.trod enc Tryz.prog W 0 (fun _ => true) true n 9 (([c0, c1, c2, c3, c4, c5, c6].drop 1).take (Tryz.prog.cellsOf 9)) = some y1 := hf 1 _ rfl
  have g2 : DataW.trod enc Tryz.prog W 0 (fun _ => true) true n 3 (([c0, c1, c2, c3, c4, c5, c6].drop 2).take (Tryz.prog.cellsOf 3)) = some y2 := hf 2 _ rfl
  have g3 : DataW.trod enc Tryz.prog W 0 (fun _ => true) true n 9 (([c0, c1, c2, c3, c4, c5, c6].drop 3).take (Tryz.prog.cellsOf 9)) = some y3 := hf 3 _ rfl
  have g4 : DataW.trod enc Tryz.prog W 0 (fun _ => true) true n 3 (([c0, c1, c2, c3, c4, c5, c6].drop 4).take (Tryz.prog.cellsOf 3)) = some y4 := hf 4 _ rfl
  have g5 : DataW.trod enc Tryz.prog W 0 (fun _ => true) true n 9 (([c0, c1, c2, c3, c4, c5, c6].drop 5).take (Tryz.prog.cellsOf 9)) = some y5 := hf 5 _ rfl
  have g6 : DataW.trod enc Tryz.prog W 0 (fun _ => true) true n 9 (([c0, c1, c2, c3, c4, c5, c6].drop 6).take (Tryz.prog.cellsOf 9)) = some y6 := hf 6 _ rfl
  simp only [cellsIE, cellsSE, List.drop, List.take] at g0 g1 g2 g3 g4 g5 g6
  obtain ⟨v0, e0, rfl, _⟩ := DataW.trod_int Tryz.underlying3 g0
  obtain ⟨v1, e1, rfl, _⟩ := DataW.trod_string Tryz.underlying9 g1
  obtain ⟨v2, e2, rfl, _⟩ := DataW.trod_int Tryz.underlying3 g2
  obtain ⟨v3, e3, rfl, _⟩ := DataW.trod_string Tryz.underlying9 g3
  obtain ⟨v4, e4, rfl, _⟩ := DataW.trod_int Tryz.underlying3 g4
  obtain ⟨v5, e5, rfl, _⟩ := DataW.trod_string Tryz.underlying9 g5
  obtain ⟨v6, e6, rfl, _⟩ := DataW.trod_string Tryz.underlying9 g6
  simp only [List.cons.injEq, and_true] at e0 e1 e2 e3 e4 e5 e6
  subst e0 e1 e2 e3 e4 e5 e6
  refine ⟨⟨v0, v1, v2, v3, v4, v5, v6⟩, rfl, ?_⟩
  have b1 := bulk_strE (H := H) v1
  have b3 := bulk_strE (H := H) v3
  have b5 := bulk_strE (H := H) v5
  have b6 := bulk_strE (H := H) v6
  simp only [List.map_cons, List.map_nil, Rows.uptoBulk, Rows.uptoBulkAll] at b1 b3 b5 b6 ⊢
  omega

theorem bulk_allE : ∀ (D : Nat → DataW H) (n : Nat), (∀ i, i < n → 1 ≤ Rows.uptoBulk (D i)) → n ≤ Rows.uptoBulkAll ((List.range n).map D) ∧ ∀ i, i < n → Rows.uptoBulk (D i) ≤ Rows.uptoBulkAll ((List.range n).map D) := by
  intro D n
  have app : ∀ l r : List (DataW H), Rows.uptoBulkAll (l ++ r) = Rows.uptoBulkAll l + Rows.uptoBulkAll r := by
    intro l r
    induction l with
    | nil => simp [Rows.uptoBulkAll]
    | cons x l ih => simp only [List.cons_append, Rows.uptoBulkAll, ih]; omega
  induction n with
  | zero => intro _; exact ⟨Nat.zero_le _, fun i hi => by omega⟩
  | succ n ih =>
    intro h
    obtain ⟨h1, h2⟩ := ih fun i hi => h i (by omega)
    have hn := h n (by omega)
    rw [List.range_succ, List.map_append, app]
    simp only [List.map_cons, List.map_nil, Rows.uptoBulkAll]
    refine ⟨by omega, fun i hi => ?_⟩
    rcases Nat.lt_or_ge i n with q | q
    · have := h2 i q; omega
    · have : i = n := by omega
      subst this
      omega

/-- A list of news that is handed in. -/
theorem open_es {fuel : Nat} {v : Value} {x : DataW H × List MemPlace} (h : DataW.trod enc Tryz.prog W 0 (fun _ => true) true fuel 22 [v] = some x) (hb : Rows.uptoBulk x.1 ≤ 1048576) :
    ∃ (a : Option Addr) (l : List Ev) (c : Nat), v = .slice a l.length c ∧ l.length ≤ c ∧ RowAt W W.heap.size a (evC l) ∧ l.length ≤ 1048576 ∧ ∀ i (h : i < l.length), l[i].node.size ≤ 1048576 ∧ l[i].addr.size ≤ 1048576 ∧ l[i].text.size ≤ 1048576 ∧ l[i].alias.size ≤ 1048576 := by
  rcases open_slice Tryz.underlying22 h with ⟨h0, _⟩ | ⟨a, len, cap, m, n, D, Pl, hc, _, hl, _, hm, rfl, hel⟩
  · simp only [List.cons.injEq, and_true] at h0
    exact ⟨none, [], 0, h0, Nat.le_refl _, fun hx => absurd rfl hx, by simp, fun i hi => by simp at hi⟩
  · simp only [List.cons.injEq, and_true] at hc
    simp only [if_true] at hm
    subst hm
    have hel' : ∀ i, i < m → ∃ q : Ev, W.cells? 0 (a.add (i * 7)) 7 = some (ev7 q) ∧ q.node.size + q.addr.size + q.text.size + q.alias.size + 1 ≤ Rows.uptoBulk (D i) := by
      intro i hi
      obtain ⟨cs', h1, h2⟩ := hel i hi
      rw [cellsE] at h1
      obtain ⟨q, rfl, h3⟩ := open_e h2
      exact ⟨q, h1, h3⟩
    obtain ⟨f, hf⟩ := choose_lt hel'
    have hll : ((List.range len).map f).length = len := by simp
    simp only [Rows.uptoBulk] at hb
    obtain ⟨k1, k2⟩ := bulk_allE D len fun i hi => by have := (hf i (by omega)).2; omega
    refine ⟨some a, (List.range len).map f, m, by rw [hll]; exact hc, by rw [hll]; exact hl, ?_, by rw [hll]; omega, fun i hi => ?_⟩
    · intro hne
      have hpos : 0 < len := by
        rcases Nat.eq_zero_or_pos len with h0 | h0
        · subst h0; exact absurd rfl hne
        · exact h0
      obtain ⟨b, o, spot⟩ := a
      have hspot : spot = none := by
        obtain ⟨_, _, hcell⟩ := World.cells?_some (hf 0 (by omega)).1
        have := hcell 0 (by decide)
        simpa [Addr.add] using World.cell?_spot this
      subst hspot
      have hcells : ∀ i, i < len → ∀ j, j < 7 → W.cell? ⟨b, o + (i * 7 + j), none⟩ = (evC ((List.range len).map f))[i * 7 + j]? := by
        intro i hi j hj
        obtain ⟨_, _, hcell⟩ := World.cells?_some (hf i (by omega)).1
        have e := hcell j hj
        rw [add_add, add_atE] at e
        rw [e]
        have hq := ev_cell ((List.range len).map f) i (by simpa using hi) j hj
        rw [hq]
        simp
      have hlen : (evC ((List.range len).map f)).length = len * 7 := by
        rw [evC_len, hll]
      refine ⟨b, o, rfl, ?_, fun j u hu => ?_⟩
      · have e := hcells 0 hpos 0 (by omega)
        rw [List.getElem?_eq_getElem (by omega)] at e
        exact cell_inE e
      · have hj : j < len * 7 := by
          rw [← hlen]
          exact (List.getElem?_eq_some_iff.1 hu).1
        have e := hcells (j / 7) (by omega) (j % 7) (by omega)
        rw [show j / 7 * 7 + j % 7 = j by omega, hu] at e
        exact e
    · have hi' : i < len := by simpa using hi
      have := (hf i (by omega)).2
      have h2 := k2 i hi'
      simp only [List.getElem_map, List.getElem_range]
      omega

end
end Go.Proofs.YtdhobdmhnocbgaaGreat
