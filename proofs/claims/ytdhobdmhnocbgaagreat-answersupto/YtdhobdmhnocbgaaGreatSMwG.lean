/-
  Walks: the mesh: the good news, the greatest Inc, entries.
-/
/-
  Walks: the mesh: entries are merged, and sorted.
-/
/-
  Walks: the mesh: entries are sorted; entries of news.
-/
/-
  Walks: the mesh: entries of news, by the node and by the alias.
-/
import Derived.Test.YtdhobdmhnocbgaaGreatSEvA
import Derived.Deep.RegionHeld3
import Derived.Deep.AppendLies
namespace Go.Proofs.YtdhobdmhnocbgaaGreat
open Go.RowKit Zr

/-- A new list of news that comes out. -/
def EvsOut (w : World) (l : List Ev) (e : Ending) (w' : World) : Prop :=
  ∃ (a : Option Addr) (c : Nat), e = .returned (.slice a l.length c) ∧ w'.ownsRow w.heap.size 48 7 (.slice a l.length c) l.length (evC l) ∧ Below w.heap.size w w'

set_option maxRecDepth 100000 in
set_option maxHeartbeats 2000000 in
theorem goodNews_m (l : List Ev) (a : Option Addr) (c N : Nat) (w : World) (hrow : RowAt w N a (evC l)) (hN : N ≤ w.heap.size) (hl : l.length ≤ 33554432) (hz : EvSized l) :
    Calls Tryz.prog 67 #[.slice a l.length c] w fun e w' => EvsOut w (goodL l) e w' := by
  have HRow := hide hrow
  have HZ := hide hz
  have HT := hide (good_take l)
  have HTL := hide (good_len l)
  obtain ⟨i0, hi, hz0, hz1, hz2⟩ := info_parts Tryz.info48
  have Hi := hide hi
  have Hz0 := hide hz0
  have Hz1 := hide hz1
  have Hz2 := hide hz2
  clear hi hz0 hz1 hz2 hrow hz
  obtain ⟨M, hM⟩ : ∃ M, w.heap.size = M := ⟨_, rfl⟩
  have HM := hide hM
  have hs0 : M ≤ w.heap.size := by omega
  rw [hM] at hN
  clear hM
  go_enter Tryz.func67, Tryz.ntmps67
  go_wp2_with fail
  go_loopg [3, 4] (l.length + 1) (fun g vl vi w' => ∃ (j n : Nat) (ar : Option Addr) (cr : Nat), vi = .int .i64 j ∧ j ≤ l.length ∧ g = l.length + 1 - j ∧ vl = .slice ar n cr ∧ n ≤ j ∧ Hid ((goodL (l.take j)).length = n) ∧ Hid (w'.ownsRow M 48 7 (.slice ar n cr) n (evC (goodL (l.take j)))) ∧ Hid (Below M w w') ∧ M ≤ w'.heap.size)
  case atStart => exact ⟨0, 0, none, 0, rfl, Nat.zero_le _, rfl, rfl, Nat.le_refl _, hide rfl, hide (World.ownsRow_nil _ _ _ _), hide (Below.refl _ _), hs0⟩
  case round =>
    obtain ⟨j, n, ar, cr, rfl, hj, rfl, rfl, hn, HS, HO, HB, hs⟩ := hrel
    by_cases cj : j < l.length
    · obtain ⟨b, o, rfl, hb, x0, x1, x2, x3, x4, x5, x6⟩ := row_e ((unhide HRow).below ((unhide HB).mono hN)) j cj
      obtain ⟨s1, s2, s3, s4⟩ := unhide HZ j cj
      obtain ⟨t1, t2⟩ := unhide HT j cj
      have key := fun W => good_m l[j] W (by omega) (by omega) (by omega) (by omega)
      have T1 := hide t1
      have T2 := hide t2
      have Key := hide key
      clear t1 t2 key s1 s2 s3 s4
      obtain ⟨k, hk⟩ : ∃ k, l[j] = k := ⟨_, rfl⟩
      rw [hk] at T1 T2 Key x0 x1 x2 x3 x4 x5 x6
      clear hk
      unfold Ev.val at Key
      obtain ⟨kd, nd, ic, ad, pt, tx, al⟩ := k
      simp only at x0 x1 x2 x3 x4 x5 x6 Key
      go_wp2_with fail
      refine (unhide Key _).mono ?_
      rintro e w1 ⟨⟨bb, rfl, hbb⟩, hb1⟩
      have y0 := (hb1.cell (p := ⟨b, o + j * 7, none⟩) (by show b < _; omega)).trans x0
      have y1 := (hb1.cell (p := ⟨b, o + j * 7 + 1, none⟩) (by show b < _; omega)).trans x1
      have y2 := (hb1.cell (p := ⟨b, o + j * 7 + 2, none⟩) (by show b < _; omega)).trans x2
      have y3 := (hb1.cell (p := ⟨b, o + j * 7 + 3, none⟩) (by show b < _; omega)).trans x3
      have y4 := (hb1.cell (p := ⟨b, o + j * 7 + 4, none⟩) (by show b < _; omega)).trans x4
      have y5 := (hb1.cell (p := ⟨b, o + j * 7 + 5, none⟩) (by show b < _; omega)).trans x5
      have y6 := (hb1.cell (p := ⟨b, o + j * 7 + 6, none⟩) (by show b < _; omega)).trans x6
      have HO1 := hide (owns_below (unhide HO) hb1)
      have HB1 := hide ((unhide HB).trans (hb1.mono hs))
      have hs1 : M ≤ w1.heap.size := Nat.le_trans hs hb1.size
      have HBB := hide hbb
      clear hbb hb1 x0 x1 x2 x3 x4 x5 x6 HO HB Key hs
      cases bb with
      | false =>
        have ht := unhide T2 (fun h => absurd ((unhide HBB).2 h) (by simp))
        have HT2 := hide ht
        clear ht
        go_wp2_with fail
        go_roundg (l.length + 1 - (j + 1))
        case measure => omega
        case rel => exact ⟨j + 1, n, ar, cr, by go_num, by omega, rfl, rfl, by omega, hide (by rw [unhide HT2]; exact unhide HS), hide (by rw [unhide HT2]; exact unhide HO1), HB1, hs1⟩
      | true =>
        have ht := unhide T1 ((unhide HBB).1 (by simp))
        have HT1 := hide ht
        clear ht
        go_wp2_with (at_builtin; refine wpList_append_row _ rfl _ _ 22 22 rfl M 48 i0 (.agg #[.int .i64 0, .string ⟨#[]⟩, .int .i64 0, .string ⟨#[]⟩, .int .i64 0, .string ⟨#[]⟩, .string ⟨#[]⟩]) 7 88 Tryz.underlying22 (unhide Hi) (unhide Hz0) (unhide Hz1) (unhide Hz2) rfl (.slice ar n cr) n (evC (goodL (l.take j))) (by rfl) ((unhide HO1).alloc _) (.slice (some ⟨w1.heap.size, 0, none⟩) 1 1) 1 [.int .i64 kd, .string nd, .int .i64 ic, .string ad, .int .i64 pt, .string tx, .string al] (by rfl) (Src.ofSlice _ Tryz.underlying22 ⟨w1.heap.size, 0, none⟩ 1 1 _ rfl (cell_seven_new _ _ _ _ _ _ _ _ _ _ rfl) one7) (by unfold maxLen; omega) (by omega) (by simp; omega) ?_; intro a1 e1 w2 hown2 hgrow2 hat2)
        go_roundg (l.length + 1 - (j + 1))
        case measure => omega
        case rel =>
          have hA := (Below.refl M w1).alloc hs1 (.cells #[.int .i64 kd, .string nd, .int .i64 ic, .string ad, .int .i64 pt, .string tx, .string al] 48)
          have hB2 := below_append ((unhide HO1).alloc _) hgrow2 (Nat.le_trans hs1 hA.size)
          refine ⟨j + 1, n + 1, a1, e1, by go_num, by omega, rfl, rfl, by omega, hide ?_, hide ?_, hide ((unhide HB1).trans (hA.trans hB2)), Nat.le_trans hs1 (Nat.le_trans hA.size hgrow2.size)⟩
          · rw [unhide HT1, List.length_append, unhide HS]; rfl
          · rw [unhide HT1, evC_push]; exact hown2
    · have ej : j = l.length := by omega
      subst ej
      have hw : EvsOut w (goodL l) (.returned (.slice ar n cr)) wr := by
        have h1 := unhide HS
        have h2 := unhide HO
        rw [List.take_length] at h1 h2
        exact ⟨ar, cr, by rw [h1], by rw [h1, unhide HM]; exact h2, by rw [unhide HM]; exact unhide HB⟩
      have HW := hide hw
      clear hw
      go_wp2_with fail
      go_ret
      exact unhide HW

end Go.Proofs.YtdhobdmhnocbgaaGreat

namespace Go.Proofs.YtdhobdmhnocbgaaGreat
open Go.RowKit Zr

def EnsOut (w : World) (l : List En) (e : Ending) (w' : World) : Prop :=
  ∃ (a : Option Addr) (c : Nat), e = .returned (.slice a l.length c) ∧ w'.ownsRow w.heap.size 164 8 (.slice a l.length c) l.length (enC l) ∧ Below w.heap.size w w'

theorem leS {x y : ByteArray} (h : ltS y x = false) : (Op.bytesLess x.toList y.toList = true) ∨ (Op.bytesLess x.toList y.toList = false ∧ (x.toList == y.toList) = true) := by
  have e : Op.bytesLess x.toList y.toList = ltS x y := rfl
  rw [e]
  cases q : ltS x y with
  | true => exact .inl rfl
  | false => exact .inr ⟨rfl, strs_eq (ltS_total q h)⟩
theorem nleS {x y : ByteArray} (h : ltS y x = true) : Op.bytesLess x.toList y.toList = false ∧ (x.toList == y.toList) = false :=
  ⟨ltS_asymm h, strs_ne (ltS_ne h).symm⟩

theorem merge_stepL {A B L : List En} {i j : Nat} (hi : i < A.length) (hj : j < B.length) (h : mergeP A B = L ++ mergeP (A.drop i) (B.drop j)) (hlt : ltS B[j].key A[i].key = false) : mergeP A B = (L ++ [A[i]]) ++ mergeP (A.drop (i + 1)) (B.drop j) := by
  rw [h, List.drop_eq_getElem_cons hi, List.drop_eq_getElem_cons hj, merge_left hlt]
  simp
theorem merge_stepR {A B L : List En} {i j : Nat} (hi : i < A.length) (hj : j < B.length) (h : mergeP A B = L ++ mergeP (A.drop i) (B.drop j)) (hlt : ltS B[j].key A[i].key = true) : mergeP A B = (L ++ [B[j]]) ++ mergeP (A.drop i) (B.drop (j + 1)) := by
  rw [h, List.drop_eq_getElem_cons hi, List.drop_eq_getElem_cons hj, merge_right hlt]
  simp
theorem merge_end {A B L : List En} {i j : Nat} (hc : ¬ (i < A.length ∧ j < B.length)) (h : mergeP A B = L ++ mergeP (A.drop i) (B.drop j)) : mergeP A B = L ++ (A.drop i ++ B.drop j) := by
  rw [h]
  by_cases c : i < A.length
  · have e : B.drop j = [] := List.drop_eq_nil_of_le (by omega)
    rw [e, merge_nil, List.append_nil]
  · have e : A.drop i = [] := List.drop_eq_nil_of_le (by omega)
    rw [e]
    simp [mergeP]
theorem rest_stepL {A R L X : List En} {i : Nat} (hi : i < A.length) (h : X = L ++ (A.drop i ++ R)) : X = (L ++ [A[i]]) ++ (A.drop (i + 1) ++ R) := by
  rw [h, List.drop_eq_getElem_cons hi]
  simp only [List.append_assoc, List.cons_append, List.nil_append]

set_option maxRecDepth 100000 in
set_option maxHeartbeats 4000000 in
theorem merged_m (A B : List En) (a a' : Option Addr) (c c' N : Nat) (w : World) (h1 : RowAt w N a (enC A)) (h2 : RowAt w N a' (enC B)) (hN : N ≤ w.heap.size) (hl : A.length + B.length ≤ 33554432) :
    Calls Tryz.prog 170 #[.slice a A.length c, .slice a' B.length c'] w fun e w' => EnsOut w (mergeP A B) e w' := by
  have H1 := hide h1
  have H2 := hide h2
  obtain ⟨i0, hi, hz0, hz1, hz2⟩ := info_parts Tryz.info164
  have Hi := hide hi
  have Hz0 := hide hz0
  have Hz1 := hide hz1
  have Hz2 := hide hz2
  clear hi hz0 hz1 hz2 h1 h2
  obtain ⟨M, hM⟩ : ∃ M, w.heap.size = M := ⟨_, rfl⟩
  have HM := hide hM
  have hs0 : M ≤ w.heap.size := by omega
  rw [hM] at hN
  have hlen := merge_length A B
  have HLen := hide hlen
  obtain ⟨X, hX⟩ : ∃ X, mergeP A B = X := ⟨_, rfl⟩
  have HX := hide hX
  clear hM hlen
  go_enter Tryz.func170, Tryz.ntmps170
  go_wp2_with fail
  go_loopg [5, 6, 7] (A.length + B.length + 1) (fun g vl vi vj w' => ∃ (i j : Nat) (L : List En) (ar : Option Addr) (cr : Nat), vi = .int .i64 i ∧ vj = .int .i64 j ∧ i ≤ A.length ∧ j ≤ B.length ∧ g = A.length + B.length + 1 - (i + j) ∧ vl = .slice ar (i + j) cr ∧ Hid (L.length = i + j) ∧ Hid (mergeP A B = L ++ mergeP (A.drop i) (B.drop j)) ∧ Hid (w'.ownsRow M 164 8 (.slice ar (i + j) cr) (i + j) (enC L)) ∧ Hid (Below M w w') ∧ M ≤ w'.heap.size)
  case atStart => exact ⟨0, 0, [], none, 0, rfl, rfl, Nat.zero_le _, Nat.zero_le _, rfl, rfl, hide rfl, hide rfl, hide (World.ownsRow_nil _ _ _ _), hide (Below.refl _ _), hs0⟩
  case round =>
    obtain ⟨i, j, L, ar, cr, rfl, rfl, hi, hj, rfl, rfl, HL, HX1, HO, HB, hs⟩ := hrel
    by_cases cc : i < A.length ∧ j < B.length
    · obtain ⟨ci, cj⟩ := cc
      obtain ⟨b, o, rfl, hb, x0, x1, x2, x3, x4, x5, x6, x7⟩ := row_n ((unhide H1).below ((unhide HB).mono hN)) i ci
      obtain ⟨b', o', rfl, hb', z0, z1, z2, z3, z4, z5, z6, z7⟩ := row_n ((unhide H2).below ((unhide HB).mono hN)) j cj
      cases q : ltS B[j].key A[i].key with
      | true =>
        have HS := hide (merge_stepR ci cj (unhide HX1) q)
        obtain ⟨f1, f2⟩ := nleS q
        clear q
        generalize A[i] = x at *
        generalize B[j] = y at *
        obtain ⟨k1, e1⟩ := x
        obtain ⟨k2, ⟨kd, nd, ic, ad, pt, tx, al⟩⟩ := y
        simp only at x0 z0 z1 z2 z3 z4 z5 z6 z7 f1 f2
        have hi1 : (i : Int) < (A.length : Int) := by omega
        have hi2 : (j : Int) < (B.length : Int) := by omega
        go_wp2_with fail
        go_quiet (fail)
        have HOq : Hid ((wr.drewN nq).ownsRow M 164 8 (.slice ar (i + j) cr) (i + j) (enC L)) := HO
        go_wp2_with (at_builtin; refine wpList_append_row _ rfl _ _ 161 161 rfl M 164 i0 (.agg #[.string ⟨#[]⟩, .int .i64 0, .string ⟨#[]⟩, .int .i64 0, .string ⟨#[]⟩, .int .i64 0, .string ⟨#[]⟩, .string ⟨#[]⟩]) 8 104 Tryz.underlying161 (unhide Hi) (unhide Hz0) (unhide Hz1) (unhide Hz2) rfl (.slice ar (i + j) cr) (i + j) (enC L) (by rfl) ((unhide HOq).alloc _) (.slice (some ⟨wr.heap.size, 0, none⟩) 1 1) 1 [.string k2, .int .i64 kd, .string nd, .int .i64 ic, .string ad, .int .i64 pt, .string tx, .string al] (by rfl) (Src.ofSlice _ Tryz.underlying161 ⟨wr.heap.size, 0, none⟩ 1 1 _ rfl (cell_eight_new _ _ _ _ _ _ _ _ _ _ _ rfl) one8) (by unfold maxLen; omega) (by omega) (by simp; omega) ?_; intro a1 e1 w2 hown2 hgrow2 hat2)
        go_roundg (A.length + B.length + 1 - (i + (j + 1)))
        case measure => omega
        case rel =>
          have hA := (Below.refl M wr).alloc hs (.cells #[.string k2, .int .i64 kd, .string nd, .int .i64 ic, .string ad, .int .i64 pt, .string tx, .string al] 164)
          have hB2 := below_append ((unhide HO).alloc (.cells #[.string k2, .int .i64 kd, .string nd, .int .i64 ic, .string ad, .int .i64 pt, .string tx, .string al] 164)) ⟨hgrow2.os, hgrow2.tape, hgrow2.output, hgrow2.size, hgrow2.block⟩ (Nat.le_trans hs hA.size)
          refine ⟨i, (j + 1), L ++ [⟨k2, kd, nd, ic, ad, pt, tx, al⟩], a1, e1, by go_num, by go_num, by omega, by omega, rfl, by rw [show i + ((j + 1)) = i + j + 1 by omega], hide ?_, HS, hide ?_, hide ((unhide HB).trans (hA.trans hB2)), Nat.le_trans hs (Nat.le_trans hA.size hgrow2.size)⟩
          · rw [List.length_append, unhide HL]; simp; omega
          · rw [enC_push, show i + ((j + 1)) = i + j + 1 by omega]; exact hown2
      | false =>
        have HS := hide (merge_stepL ci cj (unhide HX1) q)
        have hle := leS q
        clear q
        generalize A[i] = x at *
        generalize B[j] = y at *
        obtain ⟨k1, ⟨kd, nd, ic, ad, pt, tx, al⟩⟩ := x
        obtain ⟨k2, e2⟩ := y
        simp only at x0 x1 x2 x3 x4 x5 x6 x7 z0 hle
        have hi1 : (i : Int) < (A.length : Int) := by omega
        have hi2 : (j : Int) < (B.length : Int) := by omega
        rcases hle with f1 | ⟨f1, f2⟩
        · go_wp2_with fail
          go_quiet (fail)
          have HOq : Hid ((wr.drewN nq).ownsRow M 164 8 (.slice ar (i + j) cr) (i + j) (enC L)) := HO
          go_wp2_with (at_builtin; refine wpList_append_row _ rfl _ _ 161 161 rfl M 164 i0 (.agg #[.string ⟨#[]⟩, .int .i64 0, .string ⟨#[]⟩, .int .i64 0, .string ⟨#[]⟩, .int .i64 0, .string ⟨#[]⟩, .string ⟨#[]⟩]) 8 104 Tryz.underlying161 (unhide Hi) (unhide Hz0) (unhide Hz1) (unhide Hz2) rfl (.slice ar (i + j) cr) (i + j) (enC L) (by rfl) ((unhide HOq).alloc _) (.slice (some ⟨wr.heap.size, 0, none⟩) 1 1) 1 [.string k1, .int .i64 kd, .string nd, .int .i64 ic, .string ad, .int .i64 pt, .string tx, .string al] (by rfl) (Src.ofSlice _ Tryz.underlying161 ⟨wr.heap.size, 0, none⟩ 1 1 _ rfl (cell_eight_new _ _ _ _ _ _ _ _ _ _ _ rfl) one8) (by unfold maxLen; omega) (by omega) (by simp; omega) ?_; intro a1 e1 w2 hown2 hgrow2 hat2)
          go_roundg (A.length + B.length + 1 - ((i + 1) + j))
          case measure => omega
          case rel =>
            have hA := (Below.refl M wr).alloc hs (.cells #[.string k1, .int .i64 kd, .string nd, .int .i64 ic, .string ad, .int .i64 pt, .string tx, .string al] 164)
            have hB2 := below_append ((unhide HO).alloc (.cells #[.string k1, .int .i64 kd, .string nd, .int .i64 ic, .string ad, .int .i64 pt, .string tx, .string al] 164)) ⟨hgrow2.os, hgrow2.tape, hgrow2.output, hgrow2.size, hgrow2.block⟩ (Nat.le_trans hs hA.size)
            refine ⟨(i + 1), j, L ++ [⟨k1, kd, nd, ic, ad, pt, tx, al⟩], a1, e1, by go_num, by go_num, by omega, by omega, rfl, by rw [show (i + 1) + (j) = i + j + 1 by omega], hide ?_, HS, hide ?_, hide ((unhide HB).trans (hA.trans hB2)), Nat.le_trans hs (Nat.le_trans hA.size hgrow2.size)⟩
            · rw [List.length_append, unhide HL]; simp; omega
            · rw [enC_push, show (i + 1) + (j) = i + j + 1 by omega]; exact hown2
        · go_wp2_with fail
          go_quiet (fail)
          have HOq : Hid ((wr.drewN nq).ownsRow M 164 8 (.slice ar (i + j) cr) (i + j) (enC L)) := HO
          go_wp2_with (at_builtin; refine wpList_append_row _ rfl _ _ 161 161 rfl M 164 i0 (.agg #[.string ⟨#[]⟩, .int .i64 0, .string ⟨#[]⟩, .int .i64 0, .string ⟨#[]⟩, .int .i64 0, .string ⟨#[]⟩, .string ⟨#[]⟩]) 8 104 Tryz.underlying161 (unhide Hi) (unhide Hz0) (unhide Hz1) (unhide Hz2) rfl (.slice ar (i + j) cr) (i + j) (enC L) (by rfl) ((unhide HOq).alloc _) (.slice (some ⟨wr.heap.size, 0, none⟩) 1 1) 1 [.string k1, .int .i64 kd, .string nd, .int .i64 ic, .string ad, .int .i64 pt, .string tx, .string al] (by rfl) (Src.ofSlice _ Tryz.underlying161 ⟨wr.heap.size, 0, none⟩ 1 1 _ rfl (cell_eight_new _ _ _ _ _ _ _ _ _ _ _ rfl) one8) (by unfold maxLen; omega) (by omega) (by simp; omega) ?_; intro a1 e1 w2 hown2 hgrow2 hat2)
          go_roundg (A.length + B.length + 1 - ((i + 1) + j))
          case measure => omega
          case rel =>
            have hA := (Below.refl M wr).alloc hs (.cells #[.string k1, .int .i64 kd, .string nd, .int .i64 ic, .string ad, .int .i64 pt, .string tx, .string al] 164)
            have hB2 := below_append ((unhide HO).alloc (.cells #[.string k1, .int .i64 kd, .string nd, .int .i64 ic, .string ad, .int .i64 pt, .string tx, .string al] 164)) ⟨hgrow2.os, hgrow2.tape, hgrow2.output, hgrow2.size, hgrow2.block⟩ (Nat.le_trans hs hA.size)
            refine ⟨(i + 1), j, L ++ [⟨k1, kd, nd, ic, ad, pt, tx, al⟩], a1, e1, by go_num, by go_num, by omega, by omega, rfl, by rw [show (i + 1) + (j) = i + j + 1 by omega], hide ?_, HS, hide ?_, hide ((unhide HB).trans (hA.trans hB2)), Nat.le_trans hs (Nat.le_trans hA.size hgrow2.size)⟩
            · rw [List.length_append, unhide HL]; simp; omega
            · rw [enC_push, show (i + 1) + (j) = i + j + 1 by omega]; exact hown2
    · have HE := hide (merge_end cc (unhide HX1))
      rw [hX] at HE
      have hcc : (A.length ≤ i ∧ decide (i < A.length) = false ∧ A.length ≤ i) ∨ (i < A.length ∧ decide (j < B.length) = false ∧ B.length ≤ j) := by
        by_cases q : i < A.length
        · exact .inr ⟨q, decide_eq_false (by omega), by omega⟩
        · exact .inl ⟨by omega, decide_eq_false (by omega), by omega⟩
      have HE2 : Hid (∃ j2 : Nat, j2 = j ∧ X = L ++ (A.drop i ++ B.drop j2)) := hide ⟨j, rfl, unhide HE⟩
      clear HX1 cc HE2
      rcases hcc with ⟨hcc, hcd, hce⟩ | ⟨hcc, hcd, hce⟩
      all_goals
        go_wp2_with fail
        go_loopg [5, 6] (A.length + 1 - i) (fun g vl vi w' => ∃ (i j2 : Nat) (L : List En) (ar : Option Addr) (cr : Nat), vi = .int .i64 i ∧ j2 = j ∧ i ≤ A.length ∧ g = A.length + 1 - i ∧ vl = .slice ar (i + j2) cr ∧ Hid (L.length = i + j2) ∧ Hid (X = L ++ (A.drop i ++ B.drop j2)) ∧ Hid (w'.ownsRow M 164 8 (.slice ar (i + j2) cr) (i + j2) (enC L)) ∧ Hid (Below M w w') ∧ M ≤ w'.heap.size)
        case atStart => exact ⟨i, j, L, ar, cr, rfl, rfl, hi, rfl, rfl, HL, HE, HO, HB, hs⟩
        case round =>
          clear HL HE HO HB hs hcc hcd hce
          obtain ⟨i, j2, L, ar, cr, rfl, rfl, hi, rfl, rfl, HL, HE, HO, HB, hs⟩ := hrel
          by_cases ci : i < A.length
          · obtain ⟨b, o, rfl, hb, x0, x1, x2, x3, x4, x5, x6, x7⟩ := row_n ((unhide H1).below ((unhide HB).mono hN)) i ci
            have HS := hide (rest_stepL ci (unhide HE))
            generalize A[i] = x at *
            obtain ⟨k1, ⟨kd, nd, ic, ad, pt, tx, al⟩⟩ := x
            simp only at x0 x1 x2 x3 x4 x5 x6 x7
            go_wp2_with (at_builtin; refine wpList_append_row _ rfl _ _ 161 161 rfl M 164 i0 (.agg #[.string ⟨#[]⟩, .int .i64 0, .string ⟨#[]⟩, .int .i64 0, .string ⟨#[]⟩, .int .i64 0, .string ⟨#[]⟩, .string ⟨#[]⟩]) 8 104 Tryz.underlying161 (unhide Hi) (unhide Hz0) (unhide Hz1) (unhide Hz2) rfl (.slice ar (i + j2) cr) (i + j2) (enC L) (by rfl) ((unhide HO).alloc _) (.slice (some ⟨wr.heap.size, 0, none⟩) 1 1) 1 [.string k1, .int .i64 kd, .string nd, .int .i64 ic, .string ad, .int .i64 pt, .string tx, .string al] (by rfl) (Src.ofSlice _ Tryz.underlying161 ⟨wr.heap.size, 0, none⟩ 1 1 _ rfl (cell_eight_new _ _ _ _ _ _ _ _ _ _ _ rfl) one8) (by unfold maxLen; omega) (by omega) (by simp; omega) ?_; intro a1 e1 w2 hown2 hgrow2 hat2)
            go_roundg (A.length + 1 - (i + 1))
            case measure => omega
            case rel =>
              have hA := (Below.refl M wr).alloc hs (.cells #[.string k1, .int .i64 kd, .string nd, .int .i64 ic, .string ad, .int .i64 pt, .string tx, .string al] 164)
              have hB2 := below_append ((unhide HO).alloc (.cells #[.string k1, .int .i64 kd, .string nd, .int .i64 ic, .string ad, .int .i64 pt, .string tx, .string al] 164)) hgrow2 (Nat.le_trans hs hA.size)
              refine ⟨(i + 1), j2, L ++ [⟨k1, kd, nd, ic, ad, pt, tx, al⟩], a1, e1, by go_num, rfl, by omega, rfl, by rw [show (i + 1) + (j2) = i + j2 + 1 by omega], hide ?_, HS, hide ?_, hide ((unhide HB).trans (hA.trans hB2)), Nat.le_trans hs (Nat.le_trans hA.size hgrow2.size)⟩
              · rw [List.length_append, unhide HL]; simp; omega
              · rw [enC_push, show (i + 1) + (j2) = i + j2 + 1 by omega]; exact hown2
          · have ei : i = A.length := by omega
            subst ei
            go_wp2_with fail
            have HE3 : Hid (X = L ++ B.drop j2) := by have := unhide HE; rw [List.drop_length, List.nil_append] at this; exact hide this
            clear HE
            go_loopg [5, 7] (B.length + 1 - j2) (fun g vl vj w' => ∃ (j : Nat) (L : List En) (ar : Option Addr) (cr : Nat), vj = .int .i64 j ∧ j ≤ B.length ∧ g = B.length + 1 - j ∧ vl = .slice ar (A.length + j) cr ∧ Hid (L.length = A.length + j) ∧ Hid (X = L ++ B.drop j) ∧ Hid (w'.ownsRow M 164 8 (.slice ar (A.length + j) cr) (A.length + j) (enC L)) ∧ Hid (Below M w w') ∧ M ≤ w'.heap.size)
            case atStart => exact ⟨j2, L, ar, cr, rfl, hj, rfl, rfl, HL, HE3, HO, HB, hs⟩
            case round =>
              clear HL HE3 HO HB hs
              obtain ⟨j, L, ar, cr, rfl, hj, rfl, rfl, HL, HE, HO, HB, hs⟩ := hrel
              by_cases cj : j < B.length
              · obtain ⟨b, o, rfl, hb, x0, x1, x2, x3, x4, x5, x6, x7⟩ := row_n ((unhide H2).below ((unhide HB).mono hN)) j cj
                have hS : X = (L ++ [B[j]]) ++ B.drop (j + 1) := by rw [unhide HE, List.drop_eq_getElem_cons cj]; simp
                have HS := hide hS
                clear hS
                generalize B[j] = x at *
                obtain ⟨k1, ⟨kd, nd, ic, ad, pt, tx, al⟩⟩ := x
                simp only at x0 x1 x2 x3 x4 x5 x6 x7
                go_wp2_with (at_builtin; refine wpList_append_row _ rfl _ _ 161 161 rfl M 164 i0 (.agg #[.string ⟨#[]⟩, .int .i64 0, .string ⟨#[]⟩, .int .i64 0, .string ⟨#[]⟩, .int .i64 0, .string ⟨#[]⟩, .string ⟨#[]⟩]) 8 104 Tryz.underlying161 (unhide Hi) (unhide Hz0) (unhide Hz1) (unhide Hz2) rfl (.slice ar (A.length + j) cr) (A.length + j) (enC L) (by rfl) ((unhide HO).alloc _) (.slice (some ⟨wr.heap.size, 0, none⟩) 1 1) 1 [.string k1, .int .i64 kd, .string nd, .int .i64 ic, .string ad, .int .i64 pt, .string tx, .string al] (by rfl) (Src.ofSlice _ Tryz.underlying161 ⟨wr.heap.size, 0, none⟩ 1 1 _ rfl (cell_eight_new _ _ _ _ _ _ _ _ _ _ _ rfl) one8) (by unfold maxLen; omega) (by omega) (by simp; omega) ?_; intro a1 e1 w2 hown2 hgrow2 hat2)
                go_roundg (B.length + 1 - (j + 1))
                case measure => omega
                case rel =>
                  have hA := (Below.refl M wr).alloc hs (.cells #[.string k1, .int .i64 kd, .string nd, .int .i64 ic, .string ad, .int .i64 pt, .string tx, .string al] 164)
                  have hB2 := below_append ((unhide HO).alloc (.cells #[.string k1, .int .i64 kd, .string nd, .int .i64 ic, .string ad, .int .i64 pt, .string tx, .string al] 164)) hgrow2 (Nat.le_trans hs hA.size)
                  refine ⟨j + 1, L ++ [⟨k1, kd, nd, ic, ad, pt, tx, al⟩], a1, e1, by go_num, by omega, rfl, rfl, hide ?_, HS, hide ?_, hide ((unhide HB).trans (hA.trans hB2)), Nat.le_trans hs (Nat.le_trans hA.size hgrow2.size)⟩
                  · rw [List.length_append, unhide HL]; rfl
                  · rw [enC_push]; exact hown2
              · have ej : j = B.length := by omega
                subst ej
                have hw : EnsOut w (mergeP A B) (.returned (.slice ar (A.length + B.length) cr)) wr := by
                  have h1 := unhide HE
                  rw [List.drop_length, List.append_nil] at h1
                  rw [unhide HX, h1]
                  have h2 := unhide HL
                  exact ⟨ar, cr, by rw [h2], by rw [h2, unhide HM]; exact unhide HO, by rw [unhide HM]; exact unhide HB⟩
                have HW := hide hw
                clear hw
                go_wp2_with fail
                go_ret
                exact unhide HW

end Go.Proofs.YtdhobdmhnocbgaaGreat

namespace Go.Proofs.YtdhobdmhnocbgaaGreat
open Go.RowKit Zr

def SortOut (w : World) (l : List En) (e : Ending) (w' : World) : Prop :=
  ∃ (a : Option Addr) (c : Nat), l.length ≤ c ∧ e = .returned (.slice a l.length c) ∧ RowAt w' w'.heap.size a (enC (sortP l)) ∧ Below w.heap.size w w'

theorem enC_take (l : List En) (k : Nat) : enC (l.take k) = (enC l).take (k * 8) := by
  rcases Nat.le_total l.length k with h | h
  · rw [List.take_of_length_le h, List.take_of_length_le (by rw [enC_len]; omega)]
  · have e := enC_append (l.take k) (l.drop k)
    rw [List.take_append_drop] at e
    rw [e, List.take_left' (by rw [enC_len, List.length_take]; omega)]
theorem enC_drop (l : List En) (k : Nat) (h : k ≤ l.length) : enC (l.drop k) = (enC l).drop (k * 8) := by
  have e := enC_append (l.take k) (l.drop k)
  rw [List.take_append_drop] at e
  rw [e, List.drop_left' (by rw [enC_len, List.length_take]; omega)]

theorem RowAt.part {w : World} {N b o : Nat} {xs : List Value} (h : RowAt w N (some ⟨b, o, none⟩) xs) (k : Nat) : RowAt w N (some ⟨b, o, none⟩) (xs.take k) := by
  intro hx
  obtain ⟨b', o', h1, h2, h3⟩ := h (fun e => hx (by rw [e]; simp))
  exact ⟨b', o', h1, h2, fun j u hu => h3 j u (by
    have hj : j < k := by
      rcases Nat.lt_or_ge j k with q | q
      · exact q
      · rw [List.getElem?_eq_none (by rw [List.length_take]; omega)] at hu; cases hu
    rwa [List.getElem?_take_of_lt hj] at hu)⟩
theorem RowAt.rest {w : World} {N b o : Nat} {xs : List Value} (h : RowAt w N (some ⟨b, o, none⟩) xs) (k : Nat) : RowAt w N (some ⟨b, o + k, none⟩) (xs.drop k) := by
  intro hx
  obtain ⟨b', o', h1, h2, h3⟩ := h (fun e => hx (by rw [e]; simp))
  cases h1
  exact ⟨b, o + k, rfl, h2, fun j u hu => by rw [List.getElem?_drop] at hu; rw [Nat.add_assoc]; exact h3 _ _ hu⟩

set_option maxRecDepth 100000 in
set_option maxHeartbeats 2000000 in
theorem sorted_m : ∀ (f : Nat) (l : List En) (a : Option Addr) (c N : Nat) (w : World), l.length < f → RowAt w N a (enC l) → N ≤ w.heap.size → l.length ≤ c → l.length ≤ 33554432 →
    Calls Tryz.prog 156 #[.slice a l.length c] w fun e w' => SortOut w l e w' := by
  intro f
  induction f with
  | zero => intro l a c N w h; omega
  | succ f ih =>
    intro l a c N w hf hrow hN hc hl
    by_cases cs : l.length < 2
    · have hw : SortOut w l (.returned (.slice a l.length c)) w := ⟨a, c, hc, rfl, by rw [sort_few cs]; exact hrow.mono hN, Below.refl _ _⟩
      have HW := hide hw
      clear hw hrow ih
      go_enter Tryz.func156, Tryz.ntmps156
      go_wp2_with fail
      go_ret
      exact unhide HW
    · obtain ⟨b, o, rfl, hb, _⟩ := hrow (fun e => by have := enC_len l; rw [e] at this; simp at this; omega)
      obtain ⟨h, hh⟩ : ∃ h, l.length / 2 = h := ⟨_, rfl⟩
      have h1 : h ≤ l.length := by omega
      have h2 : 1 ≤ h := by omega
      have h3 : h + h ≤ l.length := by omega
      have h4 : l.length ≤ h + h + 1 := by omega
      have lt : (l.take h).length = h := by rw [List.length_take]; omega
      have ld : (l.drop h).length = l.length - h := by rw [List.length_drop]
      have k1 := fun W (hw : Below N w W) (hN : N ≤ W.heap.size) => ih (l.take h) (some ⟨b, o, none⟩) c N W (by omega) (by rw [enC_take]; exact (hrow.below hw).part _) hN (by omega) (by omega)
      have k2 := fun W (hw : Below N w W) (hN : N ≤ W.heap.size) => ih (l.drop h) (some ⟨b, o + h * 8, none⟩) (c - h) N W (by omega) (by rw [enC_drop _ _ h1]; exact (hrow.below hw).rest _) hN (by omega) (by omega)
      rw [lt] at k1
      rw [ld] at k2
      have hs := sort_many cs
      rw [hh] at hs
      have s1 := sort_length (l.take h)
      have s2 := sort_length (l.drop h)
      rw [lt] at s1
      rw [ld] at s2
      have sl := sort_length l
      have HS := hide hs
      have K1 := hide k1
      have K2 := hide k2
      have S1 := hide s1
      have S2 := hide s2
      have SL := hide sl
      have LT := hide lt
      have LD := hide ld
      clear k1 k2 hs s1 s2 sl lt ld ih hrow
      have hh2 : ((l.length : Int)).tdiv 2 = (h : Int) := by
        rw [Int.tdiv_eq_ediv_of_nonneg (by omega)]
        omega
      clear hh
      go_enter Tryz.func156, Tryz.ntmps156
      go_wp2_with fail
      refine (unhide K1 _ (Below.refl _ _) hN).mono ?_
      rintro e w1 ⟨a1, c1, q1, he, r1, b1⟩
      rw [unhide LT] at q1 he
      subst he
      have R1 := hide r1
      have B1 := hide b1
      have hs1 : w.heap.size ≤ w1.heap.size := b1.size
      clear r1 b1
      go_wp2_with fail
      refine (unhide K2 _ ((unhide B1).mono hN) (Nat.le_trans hN hs1)).mono ?_
      rintro e w2 ⟨a2, c2, q2, he, r2, b2⟩
      rw [unhide LD] at q2 he
      subst he
      have R2 := hide r2
      have R1' := hide (((unhide R1).below b2).mono b2.size)
      have B2 := hide ((unhide B1).trans (b2.mono hs1))
      have key := merged_m (sortP (l.take h)) (sortP (l.drop h)) a1 a2 c1 c2 w2.heap.size w2 (unhide R1') (unhide R2) (Nat.le_refl _) (by rw [unhide S1, unhide S2]; omega)
      rw [unhide S1, unhide S2] at key
      have Key := hide key
      have hs2 : w.heap.size ≤ w2.heap.size := (unhide B2).size
      clear r2 b2 key
      go_wp2_with fail
      refine (unhide Key).mono ?_
      rintro e w3 ⟨a3, c3, rfl, o3, b3⟩
      have hw : SortOut w l (.returned (.slice a3 (mergeP (sortP (l.take h)) (sortP (l.drop h))).length c3)) w3 := by
        rw [← unhide HS] at o3 ⊢
        rw [unhide SL] at o3 ⊢
        refine ⟨a3, c3, ?_, rfl, owns_rowAt o3, (unhide B2).trans (b3.mono hs2)⟩
        obtain ⟨_, _, _, _, hcc⟩ := owns_form o3 (by omega)
        exact hcc
      have HW := hide hw
      clear hw o3 b3
      go_wp2_with fail
      go_ret
      exact unhide HW

end Go.Proofs.YtdhobdmhnocbgaaGreat

namespace Go.Proofs.YtdhobdmhnocbgaaGreat
open Go.RowKit Zr

theorem nodeEs_take (l : List Ev) (j : Nat) (h : j < l.length) : nodeEs (l.take (j + 1)) = nodeEs (l.take j) ++ [⟨l[j].node, l[j]⟩] := by
  rw [List.take_succ_eq_append_getElem h]
  unfold nodeEs
  rw [List.map_append]
  rfl

set_option maxRecDepth 100000 in
set_option maxHeartbeats 2000000 in
theorem byNode_m (l : List Ev) (a : Option Addr) (c N : Nat) (w : World) (hrow : RowAt w N a (evC l)) (hN : N ≤ w.heap.size) (hl : l.length ≤ 33554432) :
    Calls Tryz.prog 135 #[.slice a l.length c] w fun e w' => SortOut w (nodeEs l) e w' := by
  have HRow := hide hrow
  have HT := hide (nodeEs_take l)
  obtain ⟨i0, hi, hz0, hz1, hz2⟩ := info_parts Tryz.info164
  have Hi := hide hi
  have Hz0 := hide hz0
  have Hz1 := hide hz1
  have Hz2 := hide hz2
  clear hi hz0 hz1 hz2 hrow
  obtain ⟨M, hM⟩ : ∃ M, w.heap.size = M := ⟨_, rfl⟩
  have HM := hide hM
  have hs0 : M ≤ w.heap.size := by omega
  rw [hM] at hN
  clear hM
  go_enter Tryz.func135, Tryz.ntmps135
  go_wp2_with fail
  go_loopg [3, 4] (l.length + 1) (fun g vl vi w' => ∃ (j : Nat) (ar : Option Addr) (cr : Nat), vi = .int .i64 j ∧ j ≤ l.length ∧ g = l.length + 1 - j ∧ vl = .slice ar j cr ∧ Hid (w'.ownsRow M 164 8 (.slice ar j cr) j (enC (nodeEs (l.take j)))) ∧ Hid (Below M w w') ∧ M ≤ w'.heap.size)
  case atStart => exact ⟨0, none, 0, rfl, Nat.zero_le _, rfl, rfl, hide (World.ownsRow_nil _ _ _ _), hide (Below.refl _ _), hs0⟩
  case round =>
    obtain ⟨j, ar, cr, rfl, hj, rfl, rfl, HO, HB, hs⟩ := hrel
    by_cases cj : j < l.length
    · obtain ⟨b, o, rfl, hb, x0, x1, x2, x3, x4, x5, x6⟩ := row_e ((unhide HRow).below ((unhide HB).mono hN)) j cj
      have HT1 := hide (unhide HT j cj)
      generalize l[j] = k at *
      obtain ⟨kd, nd, ic, ad, pt, tx, al⟩ := k
      simp only at x0 x1 x2 x3 x4 x5 x6 HT1
      have hi1 : (j : Int) < (l.length : Int) := by omega
      have HO2 : Hid (((wr.alloc (.cells #[.string nd, .int .i64 kd, .string nd, .int .i64 ic, .string ad, .int .i64 pt, .string tx, .string al] 164)).drew).ownsRow M 164 8 (.slice ar j cr) j (enC (nodeEs (l.take j)))) := hide ((unhide HO).alloc _)
      have HG2 : Hid (∀ w2, World.grownBy ((wr.alloc (.cells #[.string nd, .int .i64 kd, .string nd, .int .i64 ic, .string ad, .int .i64 pt, .string tx, .string al] 164)).drew) w2 (Value.slice ar j cr).ownBlock → ∀ k, w2.cell? ⟨b, k, none⟩ = wr.cell? ⟨b, k, none⟩) := hide fun w2 hg k =>
        (grown_cell (unhide HO2) hg (show b < M by omega) (show M ≤ (wr.alloc (.cells #[.string nd, .int .i64 kd, .string nd, .int .i64 ic, .string ad, .int .i64 pt, .string tx, .string al] 164)).heap.size by simp; omega) k).trans (heap_alloc_cell wr _ (by omega) k)
      go_wp2_with fail
      go_region_held3 (fun u => u.cell? ⟨b, o + j * 7, none⟩ = some (.int .i64 kd) ∧ u.cell? ⟨b, o + j * 7 + 1, none⟩ = some (.string nd) ∧ u.cell? ⟨b, o + j * 7 + 2, none⟩ = some (.int .i64 ic) ∧ u.cell? ⟨b, o + j * 7 + 3, none⟩ = some (.string ad) ∧ u.cell? ⟨b, o + j * 7 + 4, none⟩ = some (.int .i64 pt) ∧ u.cell? ⟨b, o + j * 7 + 5, none⟩ = some (.string tx) ∧ u.cell? ⟨b, o + j * 7 + 6, none⟩ = some (.string al)) (go_keep)
        (first | (refine step_append_lies _ rfl _ _ 161 rfl M 164 i0 (.agg #[.string ⟨#[]⟩, .int .i64 0, .string ⟨#[]⟩, .int .i64 0, .string ⟨#[]⟩, .int .i64 0, .string ⟨#[]⟩, .string ⟨#[]⟩]) 8 104 Tryz.underlying161 (unhide Hi) (unhide Hz0) (unhide Hz1) (unhide Hz2) rfl (by decide) (.slice ar j cr) j (enC (nodeEs (l.take j))) (by rfl) (unhide HO2) ⟨wr.heap.size, 0, none⟩ 1 1 [.string nd, .int .i64 kd, .string nd, .int .i64 ic, .string ad, .int .i64 pt, .string tx, .string al] (by rfl) (by rfl) (cell_eight_new _ _ _ _ _ _ _ _ _ _ _ rfl) one8 (by omega) (by unfold maxLen; omega) (by omega) (by simp; omega) _ rfl ?_; intro g1 e1 w2 hown2 hgrow2 hat2 hlt2; have y0 := (unhide HG2 w2 hgrow2 _).trans x0; have y1 := (unhide HG2 w2 hgrow2 _).trans x1; have y2 := (unhide HG2 w2 hgrow2 _).trans x2; have y3 := (unhide HG2 w2 hgrow2 _).trans x3; have y4 := (unhide HG2 w2 hgrow2 _).trans x4; have y5 := (unhide HG2 w2 hgrow2 _).trans x5; have y6 := (unhide HG2 w2 hgrow2 _).trans x6))
      go_wp2_with fail
      go_roundg (l.length + 1 - (j + 1))
      case measure => omega
      case rel =>
        have hA := (Below.refl M wr).alloc hs (.cells #[.string nd, .int .i64 kd, .string nd, .int .i64 ic, .string ad, .int .i64 pt, .string tx, .string al] 164)
        have hB2 := below_append (unhide HO2) hgrow2 (show M ≤ (wr.alloc (.cells #[.string nd, .int .i64 kd, .string nd, .int .i64 ic, .string ad, .int .i64 pt, .string tx, .string al] 164)).heap.size by simp; omega)
        refine ⟨j + 1, some ⟨g1, 0, none⟩, e1, by go_num, by omega, rfl, rfl, hide ?_, hide ((unhide HB).trans (hA.trans ⟨hB2.os, hB2.tape, hB2.output, hB2.size, hB2.block⟩)), Nat.le_trans hs (Nat.le_trans hA.size hB2.size)⟩
        rw [unhide HT1, enC_push]
        exact hown2
    · have ej : j = l.length := by omega
      subst ej
      have ho := unhide HO
      rw [List.take_length] at ho
      have hln : (nodeEs l).length = l.length := by unfold nodeEs; rw [List.length_map]
      have hcap : l.length ≤ cr := by
        rcases Nat.eq_zero_or_pos l.length with h0 | h0
        · omega
        · obtain ⟨_, _, _, _, h⟩ := owns_form ho h0; exact h
      have key := sorted_m (l.length + 1) (nodeEs l) ar cr wr.heap.size wr (by omega) (owns_rowAt ho) (Nat.le_refl _) (by omega) (by omega)
      rw [hln] at key
      have Key := hide key
      clear key ho HO
      go_wp2_with fail
      refine (unhide Key).mono ?_
      rintro e w1 ⟨a1, c1, q1, rfl, r1, b1⟩
      have hw : SortOut w (nodeEs l) (.returned (.slice a1 l.length c1)) w1 := ⟨a1, c1, q1, by rw [hln], r1, by rw [unhide HM]; exact (unhide HB).trans (b1.mono hs)⟩
      have HW := hide hw
      clear hw r1 b1
      go_wp2_with fail
      go_ret
      exact unhide HW

theorem aliEs_take (l : List Ev) (j : Nat) (h : j < l.length) : (l[j].alias ≠ ⟨#[]⟩ → aliEs (l.take (j + 1)) = aliEs (l.take j) ++ [⟨l[j].alias, l[j]⟩]) ∧ (l[j].alias = ⟨#[]⟩ → aliEs (l.take (j + 1)) = aliEs (l.take j)) := by
  rw [List.take_succ_eq_append_getElem h]
  unfold aliEs
  rw [List.filter_append, List.map_append]
  refine ⟨fun hg => ?_, fun hg => ?_⟩
  · rw [List.filter_cons_of_pos (by simpa using hg)]; rfl
  · rw [List.filter_cons_of_neg (by simpa using hg)]; simp
theorem aliEs_len (l : List Ev) (j : Nat) : (aliEs (l.take j)).length ≤ j := by
  unfold aliEs
  rw [List.length_map]
  have := List.length_filter_le (fun e : Ev => decide (e.alias ≠ ⟨#[]⟩)) (l.take j)
  rw [List.length_take] at this
  omega

set_option maxRecDepth 100000 in
set_option maxHeartbeats 2000000 in
theorem byAlias_m (l : List Ev) (a : Option Addr) (c N : Nat) (w : World) (hrow : RowAt w N a (evC l)) (hN : N ≤ w.heap.size) (hl : l.length ≤ 33554432) :
    Calls Tryz.prog 137 #[.slice a l.length c] w fun e w' => SortOut w (aliEs l) e w' := by
  have HRow := hide hrow
  have HT := hide (aliEs_take l)
  have HTL := hide (aliEs_len l)
  obtain ⟨i0, hi, hz0, hz1, hz2⟩ := info_parts Tryz.info164
  have Hi := hide hi
  have Hz0 := hide hz0
  have Hz1 := hide hz1
  have Hz2 := hide hz2
  clear hi hz0 hz1 hz2 hrow
  obtain ⟨M, hM⟩ : ∃ M, w.heap.size = M := ⟨_, rfl⟩
  have HM := hide hM
  have hs0 : M ≤ w.heap.size := by omega
  rw [hM] at hN
  clear hM
  go_enter Tryz.func137, Tryz.ntmps137
  go_wp2_with fail
  go_loopg [3, 4] (l.length + 1) (fun g vl vi w' => ∃ (j n : Nat) (ar : Option Addr) (cr : Nat), vi = .int .i64 j ∧ j ≤ l.length ∧ g = l.length + 1 - j ∧ vl = .slice ar n cr ∧ n ≤ j ∧ Hid ((aliEs (l.take j)).length = n) ∧ Hid (w'.ownsRow M 164 8 (.slice ar n cr) n (enC (aliEs (l.take j)))) ∧ Hid (Below M w w') ∧ M ≤ w'.heap.size)
  case atStart => exact ⟨0, 0, none, 0, rfl, Nat.zero_le _, rfl, rfl, Nat.le_refl _, hide rfl, hide (World.ownsRow_nil _ _ _ _), hide (Below.refl _ _), hs0⟩
  case round =>
    obtain ⟨j, n, ar, cr, rfl, hj, rfl, rfl, hn, HS, HO, HB, hs⟩ := hrel
    by_cases cj : j < l.length
    · obtain ⟨b, o, rfl, hb, x0, x1, x2, x3, x4, x5, x6⟩ := row_e ((unhide HRow).below ((unhide HB).mono hN)) j cj
      obtain ⟨t1, t2⟩ := unhide HT j cj
      have T1 := hide t1
      have T2 := hide t2
      clear t1 t2
      generalize l[j] = k at *
      obtain ⟨kd, nd, ic, ad, pt, tx, al⟩ := k
      simp only at x0 x1 x2 x3 x4 x5 x6 T1 T2
      by_cases ca : al = ⟨#[]⟩
      · have e0 : al.toList.isEmpty = true := (empty_iff al).2 ca
        have HT2 := hide (unhide T2 ca)
        clear ca
        go_wp2_with fail
        go_roundg (l.length + 1 - (j + 1))
        case measure => omega
        case rel => exact ⟨j + 1, n, ar, cr, by go_num, by omega, rfl, rfl, by omega, hide (by rw [unhide HT2]; exact unhide HS), hide (by rw [unhide HT2]; exact unhide HO), HB, hs⟩
      · have e0 : al.toList.isEmpty = false := by
          cases e : al.toList.isEmpty with
          | false => rfl
          | true => exact absurd ((empty_iff al).1 e) ca
        have HT1 := hide (unhide T1 ca)
        clear ca
        have hi1 : (j : Int) < (l.length : Int) := by omega
        have HO2 : Hid (((wr.alloc (.cells #[.string al, .int .i64 kd, .string nd, .int .i64 ic, .string ad, .int .i64 pt, .string tx, .string al] 164)).drew).ownsRow M 164 8 (.slice ar n cr) n (enC (aliEs (l.take j)))) := hide ((unhide HO).alloc _)
        have HG2 : Hid (∀ w2, World.grownBy ((wr.alloc (.cells #[.string al, .int .i64 kd, .string nd, .int .i64 ic, .string ad, .int .i64 pt, .string tx, .string al] 164)).drew) w2 (Value.slice ar n cr).ownBlock → ∀ k, w2.cell? ⟨b, k, none⟩ = wr.cell? ⟨b, k, none⟩) := hide fun w2 hg k =>
          (grown_cell (unhide HO2) hg (show b < M by omega) (show M ≤ (wr.alloc (.cells #[.string al, .int .i64 kd, .string nd, .int .i64 ic, .string ad, .int .i64 pt, .string tx, .string al] 164)).heap.size by simp; omega) k).trans (heap_alloc_cell wr _ (by omega) k)
        go_wp2_with fail
        go_region_held3 (fun u => u.cell? ⟨b, o + j * 7, none⟩ = some (.int .i64 kd) ∧ u.cell? ⟨b, o + j * 7 + 1, none⟩ = some (.string nd) ∧ u.cell? ⟨b, o + j * 7 + 2, none⟩ = some (.int .i64 ic) ∧ u.cell? ⟨b, o + j * 7 + 3, none⟩ = some (.string ad) ∧ u.cell? ⟨b, o + j * 7 + 4, none⟩ = some (.int .i64 pt) ∧ u.cell? ⟨b, o + j * 7 + 5, none⟩ = some (.string tx) ∧ u.cell? ⟨b, o + j * 7 + 6, none⟩ = some (.string al)) (go_keep)
          (first | (refine step_append_lies _ rfl _ _ 161 rfl M 164 i0 (.agg #[.string ⟨#[]⟩, .int .i64 0, .string ⟨#[]⟩, .int .i64 0, .string ⟨#[]⟩, .int .i64 0, .string ⟨#[]⟩, .string ⟨#[]⟩]) 8 104 Tryz.underlying161 (unhide Hi) (unhide Hz0) (unhide Hz1) (unhide Hz2) rfl (by decide) (.slice ar n cr) n (enC (aliEs (l.take j))) (by rfl) (unhide HO2) ⟨wr.heap.size, 0, none⟩ 1 1 [.string al, .int .i64 kd, .string nd, .int .i64 ic, .string ad, .int .i64 pt, .string tx, .string al] (by rfl) (by rfl) (cell_eight_new _ _ _ _ _ _ _ _ _ _ _ rfl) one8 (by omega) (by unfold maxLen; omega) (by omega) (by simp; omega) _ rfl ?_; intro g1 e1 w2 hown2 hgrow2 hat2 hlt2; have y0 := (unhide HG2 w2 hgrow2 _).trans x0; have y1 := (unhide HG2 w2 hgrow2 _).trans x1; have y2 := (unhide HG2 w2 hgrow2 _).trans x2; have y3 := (unhide HG2 w2 hgrow2 _).trans x3; have y4 := (unhide HG2 w2 hgrow2 _).trans x4; have y5 := (unhide HG2 w2 hgrow2 _).trans x5; have y6 := (unhide HG2 w2 hgrow2 _).trans x6))
        go_wp2_with fail
        go_roundg (l.length + 1 - (j + 1))
        case measure => omega
        case rel =>
          have hA := (Below.refl M wr).alloc hs (.cells #[.string al, .int .i64 kd, .string nd, .int .i64 ic, .string ad, .int .i64 pt, .string tx, .string al] 164)
          have hB2 := below_append (unhide HO2) hgrow2 (show M ≤ (wr.alloc (.cells #[.string al, .int .i64 kd, .string nd, .int .i64 ic, .string ad, .int .i64 pt, .string tx, .string al] 164)).heap.size by simp; omega)
          refine ⟨j + 1, n + 1, some ⟨g1, 0, none⟩, e1, by go_num, by omega, rfl, rfl, by omega, hide (by rw [unhide HT1, List.length_append, unhide HS]; rfl), hide ?_, hide ((unhide HB).trans (hA.trans ⟨hB2.os, hB2.tape, hB2.output, hB2.size, hB2.block⟩)), Nat.le_trans hs (Nat.le_trans hA.size hB2.size)⟩
          rw [unhide HT1, enC_push]
          exact hown2
    · have ej : j = l.length := by omega
      subst ej
      have ho := unhide HO
      rw [List.take_length] at ho
      have hln := unhide HS
      rw [List.take_length] at hln
      have hcap : n ≤ cr := by
        rcases Nat.eq_zero_or_pos n with h0 | h0
        · omega
        · obtain ⟨_, _, _, _, h⟩ := owns_form ho h0; exact h
      have key := sorted_m (n + 1) (aliEs l) ar cr wr.heap.size wr (by omega) (owns_rowAt ho) (Nat.le_refl _) (by omega) (by omega)
      rw [hln] at key
      have Key := hide key
      have HLN := hide hln
      clear key ho HO hln
      go_wp2_with fail
      refine (unhide Key).mono ?_
      rintro e w1 ⟨a1, c1, q1, he, r1, b1⟩
      rw [unhide HLN] at he
      subst he
      have hw : SortOut w (aliEs l) (.returned (.slice a1 n c1)) w1 := ⟨a1, c1, q1, by rw [unhide HLN], r1, by rw [unhide HM]; exact (unhide HB).trans (b1.mono hs)⟩
      have HW := hide hw
      clear hw r1 b1
      go_wp2_with fail
      go_ret
      exact unhide HW

end Go.Proofs.YtdhobdmhnocbgaaGreat
