/-
  Walks over the law: Parse by the program and by the document.
-/
import Derived.Test.YtdhobdmhnocbgaaLawE
namespace Go.Proofs.Ytdhobdmhnocbgaa
open Go.RowKit Zr

theorem small_parse (b : ByteArray) : Small (msgOf (parseP b)) := by
  have hno : Small noMsg := ⟨Nat.zero_le _, Nat.zero_le _, Nat.zero_le _, Nat.zero_le _⟩
  unfold parseP
  by_cases c : 65535 < b.size
  · rw [if_pos c]; exact hno
  · rw [if_neg c]
    by_cases c12 : b.size < 12
    · rw [if_pos c12]; exact hno
    · rw [if_neg c12]
      have h1 := qsTo_bounds b 12 (by omega) (num b 4 2)
      have l4 := num_lt2 b 4
      have l6 := num_lt2 b 6
      have l8 := num_lt2 b 8
      have l10 := num_lt2 b 10
      cases hq : qsTo b 12 (num b 4 2) with
      | error e => exact hno
      | ok z =>
        obtain ⟨q, p1⟩ := z
        have h1' := h1 q p1 hq
        simp only
        have h2 := rcTo_bounds b 0 p1 h1'.2.2 (num b 6 2)
        cases ha : rcTo b 0 p1 (num b 6 2) with
        | error e => exact hno
        | ok z =>
          obtain ⟨a, p2⟩ := z
          have h2' := h2 a p2 ha
          simp only
          have h3 := rcTo_bounds b 1 p2 h2'.2.2 (num b 8 2)
          cases hu : rcTo b 1 p2 (num b 8 2) with
          | error e => exact hno
          | ok z =>
            obtain ⟨u, p3⟩ := z
            have h3' := h3 u p3 hu
            simp only
            have h4 := rcTo_bounds b 2 p3 h3'.2.2 (num b 10 2)
            cases hx : rcTo b 2 p3 (num b 10 2) with
            | error e => exact hno
            | ok z =>
              obtain ⟨x, p4⟩ := z
              have h4' := h4 x p4 hx
              simp only
              split
              · exact hno
              · exact ⟨by show q.length ≤ _; omega, by show a.length ≤ _; omega, by show u.length ≤ _; omega, by show x.length ≤ _; omega⟩

theorem MsgIs.in {w w' : World} {N B E : Nat} {v : Value} {m : Msg} (h : MsgIs w N v m) (hg : GrewIn w w' B E) (hN : E ≤ N) : MsgIs w' N v m := by
  obtain ⟨a1, c1, a2, c2, a3, c3, a4, c4, hv, o1, o2, o3, o4, ap⟩ := h
  have ne : ∀ {e : TypeId} {size : Nat} {s : Value} {n : Nat} {xs : List Value}, w.ownsRow N e size s n xs → ∀ g, s.ownBlock = some g → g < B ∨ E ≤ g := fun ho g hg => .inr (by have := (ho.lt g hg).1; omega)
  exact ⟨a1, c1, a2, c2, a3, c3, a4, c4, hv, hg.owns o1 (ne o1), hg.owns o2 (ne o2), hg.owns o3 (ne o3), hg.owns o4 (ne o4), ap⟩

theorem MsgIs.form {w : World} {N : Nat} {v : Value} {m : Msg} (h : MsgIs w N v m) : ∃ a1 n1 c1 a2 n2 c2 a3 n3 c3 a4 n4 c4, v = .agg #[.int .i64 m.id, .int .i64 m.flags, .slice a1 n1 c1, .slice a2 n2 c2, .slice a3 n3 c3, .slice a4 n4 c4] := by
  obtain ⟨a1, c1, a2, c2, a3, c3, a4, c4, hv, _⟩ := h
  exact ⟨_, _, _, _, _, _, _, _, _, _, _, _, hv⟩

set_option maxRecDepth 100000 in
set_option maxHeartbeats 2000000 in
theorem parsed_any (b : ByteArray) (k : Int) (w : World) (hm : b.size ≤ maxLen) (hk0 : 0 ≤ k) (hk1 : k ≤ 1000000) :
    Calls Try.prog 11 #[.string b, .int .i64 k] w fun e w' => Grew w w' none ∧ ∃ i f a1 n1 c1 a2 n2 c2 a3 n3 c3 a4 n4 c4, e = .returned (.tuple #[.agg #[.int .i64 i, .int .i64 f, .slice a1 n1 c1, .slice a2 n2 c2, .slice a3 n3 c3, .slice a4 n4 c4], .bool true]) := by
  have key1 := fun w => zoneParse_any b w hm
  have key2 := fun w => refParse_any b w hm
  have hsm := small_parse b
  generalize parseP b = r at key1 key2 hsm
  have K1 := hide key1
  have K2 := hide key2
  clear key1 key2
  generalize hN : w.heap.size = N
  have hA : (w.alloc msg0).heap[N]? = some msg0 := by rw [← hN]; exact heap_alloc_new _ _
  have hG : Below N w (w.alloc msg0) := (Below.refl _ _).alloc (by omega) _
  have hS : (w.alloc msg0).heap.size = N + 1 := by simp [hN]
  unfold msg0 at hA hG hS
  go_enter Try.func11, Try.ntmps11
  go_wp2_with fail
  generalize w.alloc (.cells #[.int .i64 0, .int .i64 0, .slice none 0 0, .slice none 0 0, .slice none 0 0, .slice none 0 0] 25 (0, 0)) = w0 at *
  refine (unhide K1 w0).mono ?_
  rintro e w1 ⟨v, rfl, hM, hb1⟩
  rw [hS] at hM hb1
  obtain ⟨a1, n1, c1, a2, n2, c2, a3, n3, c3, a4, n4, c4, rfl⟩ := hM.form
  have hA1 := (hb1.block N (by omega)).trans hA
  have hbw1 : Below N w w1 := hG.trans (hb1.mono (by omega))
  have hU := hM.under
  have hl1 := blk_lt hA1
  generalize hS1 : w1.heap.size = S1 at *
  have HM := hide hM
  have HU := hide hU
  have HA1 := hide hA1
  clear hM hU hA1 hA hG hS hb1 K1
  go_wp2_with fail
  have hal : Below w1.heap.size w1 (w1.alloc (.cells #[.int .i64 (msgOf r).id, .int .i64 (msgOf r).flags, .slice a1 n1 c1, .slice a2 n2 c2, .slice a3 n3 c3, .slice a4 n4 c4] 25 (0, 0))) := (Below.refl _ _).alloc (Nat.le_refl _) _
  have hz1 : (w1.alloc (.cells #[.int .i64 (msgOf r).id, .int .i64 (msgOf r).flags, .slice a1 n1 c1, .slice a2 n2 c2, .slice a3 n3 c3, .slice a4 n4 c4] 25 (0, 0))).heap.size = S1 + 1 := by simp [hS1]
  have hX1 : (w1.alloc (.cells #[.int .i64 (msgOf r).id, .int .i64 (msgOf r).flags, .slice a1 n1 c1, .slice a2 n2 c2, .slice a3 n3 c3, .slice a4 n4 c4] 25 (0, 0))).heap[S1]? = some (.cells #[.int .i64 (msgOf r).id, .int .i64 (msgOf r).flags, .slice a1 n1 c1, .slice a2 n2 c2, .slice a3 n3 c3, .slice a4 n4 c4] 25 (0, 0)) := by rw [← hS1]; exact heap_alloc_new _ _
  have hM1 := (unhide HM).below hal
  have hA2 := (hal.block N (by rw [hS1]; exact hl1)).trans (unhide HA1)
  have hbw2 : Below N w (w1.alloc (.cells #[.int .i64 (msgOf r).id, .int .i64 (msgOf r).flags, .slice a1 n1 c1, .slice a2 n2 c2, .slice a3 n3 c3, .slice a4 n4 c4] 25 (0, 0))) := hbw1.trans (hal.mono (by omega))
  generalize w1.alloc (.cells #[.int .i64 (msgOf r).id, .int .i64 (msgOf r).flags, .slice a1 n1 c1, .slice a2 n2 c2, .slice a3 n3 c3, .slice a4 n4 c4] 25 (0, 0)) = y1 at *
  clear HM HA1 hal hbw1
  refine (unhide K2 y1).mono ?_
  rintro e w2 ⟨v, rfl, hM2, hb2⟩
  rw [hz1] at hM2 hb2
  obtain ⟨b1, m1, d1, b2, m2, d2, b3, m3, d3, b4, m4, d4, rfl⟩ := hM2.form
  have hbb : Below y1.heap.size y1 w2 := by rw [hz1]; exact hb2
  have hM3 := hM1.below hbb
  have hX2 := (hbb.block S1 (by omega)).trans hX1
  have hA3 := (hbb.block N (by omega)).trans hA2
  have hbw3 : Below N w w2 := hbw2.trans (hbb.mono (by omega))
  have hl2 := blk_lt hX2
  generalize hS2 : w2.heap.size = S2 at *
  have HM1 := hide hM3
  have HM2 := hide hM2
  have HX := hide hX2
  have HA := hide hA3
  clear hM1 hM2 hM3 hX1 hX2 hA2 hA3 hbb hb2 hz1 hbw2 K2
  obtain ⟨⟨x0, x1, x2, x3, x4, x5⟩, y0, y1, y2, y3, y4, y5⟩ := cells6 (unhide HX)
  go_wp2_with fail
  have hal : Below w2.heap.size w2 (w2.alloc (.cells #[.int .i64 (msgOf r).id, .int .i64 (msgOf r).flags, .slice b1 m1 d1, .slice b2 m2 d2, .slice b3 m3 d3, .slice b4 m4 d4] 25 (0, 0))) := (Below.refl _ _).alloc (Nat.le_refl _) _
  have hz2 : (w2.alloc (.cells #[.int .i64 (msgOf r).id, .int .i64 (msgOf r).flags, .slice b1 m1 d1, .slice b2 m2 d2, .slice b3 m3 d3, .slice b4 m4 d4] 25 (0, 0))).heap.size = S2 + 1 := by simp [hS2]
  have hY1 : (w2.alloc (.cells #[.int .i64 (msgOf r).id, .int .i64 (msgOf r).flags, .slice b1 m1 d1, .slice b2 m2 d2, .slice b3 m3 d3, .slice b4 m4 d4] 25 (0, 0))).heap[S2]? = some (.cells #[.int .i64 (msgOf r).id, .int .i64 (msgOf r).flags, .slice b1 m1 d1, .slice b2 m2 d2, .slice b3 m3 d3, .slice b4 m4 d4] 25 (0, 0)) := by rw [← hS2]; exact heap_alloc_new _ _
  have hM1 := (unhide HM1).below hal
  have hM2 := (unhide HM2).below hal
  have hX1 := (hal.block S1 (by rw [hS2]; omega)).trans (unhide HX)
  have hA1 := (hal.block N (by rw [hS2]; omega)).trans (unhide HA)
  have hbw1 : Below N w (w2.alloc (.cells #[.int .i64 (msgOf r).id, .int .i64 (msgOf r).flags, .slice b1 m1 d1, .slice b2 m2 d2, .slice b3 m3 d3, .slice b4 m4 d4] 25 (0, 0))) := hbw3.trans (hal.mono (by omega))
  generalize w2.alloc (.cells #[.int .i64 (msgOf r).id, .int .i64 (msgOf r).flags, .slice b1 m1 d1, .slice b2 m2 d2, .slice b3 m3 d3, .slice b4 m4 d4] 25 (0, 0)) = z2 at *
  clear HM1 HM2 HX HA hal hbw3 x0 x1 x2 x3 x4 x5 y0 y1 y2 y3 y4 y5
  refine (sameMessage_true (msgOf r) _ _ (N + 1) (S1 + 1) z2 hM1 hM2 hsm).mono ?_
  rintro e w3 ⟨rfl, hb3⟩
  have hM1' := hM1.below hb3
  have hM2' := hM2.below hb3
  have hX2 := (hb3.block S1 (by omega)).trans hX1
  have hY2 := (hb3.block S2 (by omega)).trans hY1
  have hA2 := (hb3.block N (by omega)).trans hA1
  have hG3 : GrewIn w w3 N S1 := GrewIn.of_below (by rw [hN]; exact hbw1.trans (hb3.mono (by omega)))
  have hl3 : S2 < w3.heap.size := blk_lt hY2
  have HM1 := hide hM1'
  have HM2 := hide hM2'
  have HX := hide hX2
  have HY := hide hY2
  have HA := hide hA2
  have HG := hide hG3
  clear hM1 hM2 hM1' hM2' hX1 hX2 hY1 hY2 hA1 hA2 hb3 hbw1 hG3 hz2
  obtain ⟨⟨x0, x1, x2, x3, x4, x5⟩, y0, y1, y2, y3, y4, y5⟩ := cells6 (unhide HX)
  go_wp2_with fail
  refine (behindAll_any (msgOf r) _ (N + 1) S1 w3 (unhide HM1) (unhide HU) hsm (by omega)).mono ?_
  rintro e w4 ⟨rfl, hM1', hI⟩
  have hM2' := (unhide HM2).in hI (by omega)
  have hX2 := hI.blk (unhide HX) (.inr (Nat.le_refl _))
  have hY2 := hI.blk (unhide HY) (.inr (by omega))
  have hA2 := hI.blk (unhide HA) (.inl (by omega))
  have hG4 : GrewIn w w4 N S1 := (unhide HG).trans ⟨hI.os, hI.output, hI.size, fun k hk hc => hI.block k hk (by omega)⟩
  have hl4 : S2 < w4.heap.size := blk_lt hY2
  clear HM1 HM2 HX HY HA HG hI x0 x1 x2 x3 x4 x5 y0 y1 y2 y3 y4 y5 hl3
  have HM1 := hide hM1'
  have HM2 := hide hM2'
  have HX := hide hX2
  have HY := hide hY2
  have HA := hide hA2
  have HG := hide hG4
  clear hM1' hM2' hX2 hY2 hA2 hG4
  obtain ⟨⟨x0, x1, x2, x3, x4, x5⟩, y0, y1, y2, y3, y4, y5⟩ := cells6 (unhide HX)
  obtain ⟨⟨t0, t1, t2, t3, t4, t5⟩, j0, j1, j2, j3, j4, j5⟩ := cells6 (unhide HY)
  go_wp2_with fail
  refine (sameMessage_true (msgOf r) _ _ (N + 1) (S1 + 1) w4 (unhide HM1) (unhide HM2) hsm).mono ?_
  rintro e w5 ⟨rfl, hb5⟩
  have hM1' := (unhide HM1).below hb5
  have hX2 := (hb5.block S1 (by omega)).trans (unhide HX)
  have hA2 := (hb5.block N (by omega)).trans (unhide HA)
  have hG5 : GrewIn w w5 N S1 := (unhide HG).trans (GrewIn.of_below hb5)
  have hl5 : S1 < w5.heap.size := blk_lt hX2
  clear HM1 HM2 HX HY HA HG hb5 x0 x1 x2 x3 x4 x5 y0 y1 y2 y3 y4 y5 t0 t1 t2 t3 t4 t5 j0 j1 j2 j3 j4 j5
  have HM1 := hide hM1'
  have HX := hide hX2
  have HA := hide hA2
  have HG := hide hG5
  clear hM1' hX2 hA2 hG5
  obtain ⟨⟨x0, x1, x2, x3, x4, x5⟩, y0, y1, y2, y3, y4, y5⟩ := cells6 (unhide HX)
  go_wp2_with fail
  refine (own_any (msgOf r) _ (N + 1) S1 _ w5 (unhide HM1) (unhide HU) hsm (by omega) (by omega) (by omega)).mono ?_
  rintro e w6 ⟨rfl, hI⟩
  have hX2 := hI.blk (unhide HX) (.inr (Nat.le_refl _))
  have hA2 := hI.blk (unhide HA) (.inl (by omega))
  have hG6 : GrewIn w w6 N S1 := (unhide HG).trans ⟨hI.os, hI.output, hI.size, fun k hk hc => hI.block k hk (by omega)⟩
  clear HM1 HX HA HG hI x0 x1 x2 x3 x4 x5 y0 y1 y2 y3 y4 y5
  obtain ⟨⟨x0, x1, x2, x3, x4, x5⟩, y0, y1, y2, y3, y4, y5⟩ := cells6 hX2
  obtain ⟨⟨t0, t1, t2, t3, t4, t5⟩, j0, j1, j2, j3, j4, j5⟩ := cells6 hA2
  have hl6 := blk_lt hA2
  have HA := hide hA2
  have HG := hide hG6
  have hee : (errOf r == errOf r) = true := by simp
  clear hX2 hA2 hG6
  go_wp2_with fail
  have hf := store6 (unhide HA) (.int .i64 (msgOf r).id) (.int .i64 (msgOf r).flags) (.slice a1 n1 c1) (.slice a2 n2 c2) (.slice a3 n3 c3) (.slice a4 n4 c4)
  obtain ⟨⟨g0, g1, g2, g3, g4, g5⟩, _⟩ := cells6 hf
  refine bodyPost_ret (v := .tuple #[.agg #[.int .i64 (msgOf r).id, .int .i64 (msgOf r).flags, .slice a1 n1 c1, .slice a2 n2 c2, .slice a3 n3 c3, .slice a4 n4 c4], .bool true]) (by simp [results, Try.results11, go_sem, g0, g1, g2, g3, g4, g5]) rfl ⟨?_, _, _, _, _, _, _, _, _, _, _, _, _, _, _, rfl⟩
  have hset := ((((((Grew.set w6 N 0 (.int .i64 (msgOf r).id)).trans (Grew.set _ N 1 (.int .i64 (msgOf r).flags))).trans (Grew.set _ N 2 (.slice a1 n1 c1))).trans (Grew.set _ N 3 (.slice a2 n2 c2))).trans (Grew.set _ N 4 (.slice a3 n3 c3))).trans (Grew.set _ N 5 (.slice a4 n4 c4)))
  have hg := unhide HG
  have hne : ∀ i, i < w.heap.size → some i ≠ some N := fun i hi e => by
    simp at e
    omega
  exact ⟨hset.os.trans hg.os, hset.output.trans hg.output, Nat.le_trans hg.size hset.size, fun i hi _ => (hset.block i (Nat.lt_of_lt_of_le hi hg.size) (hne i hi)).trans (hg.block i hi (.inl (by omega)))⟩

set_option maxRecDepth 100000 in
set_option maxHeartbeats 1000000 in
theorem parses_any (b : ByteArray) (w : World) (hm : b.size ≤ maxLen) :
    Calls Try.prog 3 #[.string b] w fun e w' => e = .returned (.bool true) ∧ Grew w w' none := by
  go_enter Try.func3, Try.ntmps3
  go_wp2_with fail
  refine (parsed_any b 0 w hm (by omega) (by omega)).mono ?_
  rintro e w1 ⟨hg, i, f, a1, n1, c1, a2, n2, c2, a3, n3, c3, a4, n4, c4, rfl⟩
  have HG := hide hg
  clear hg
  go_wp2_with fail
  go_ret
  refine ⟨rfl, ?_⟩
  have hg := unhide HG
  have hal := Grew.of_below (Below.alloc (Below.refl w1.heap.size w1) (Nat.le_refl _) (.cells #[.int .i64 i, .int .i64 f, .slice a1 n1 c1, .slice a2 n2 c2, .slice a3 n3 c3, .slice a4 n4 c4] 25))
  exact hg.trans hal

end Go.Proofs.Ytdhobdmhnocbgaa
