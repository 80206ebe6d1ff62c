/-
  Walks over the law: does a message with room read as the message? Serials.
-/
import Derived.Test.YtdhobdmhnocbgaaQLawJ
import Derived.Test.YtdhobdmhnocbgaaQTxE
namespace Go.Proofs.Ytdhobdmhnocbgaa
open Go.RowKit Zr

theorem RoomM.msg {w : World} {N N' : Nat} {v v' : Value} {m : MI} (h : RoomM w N v m) (hm : MsgAt w N' v' m) : MsgAt w w.heap.size v m := by
  obtain ⟨v1, v2, v3, v4, rfl, h1, h2, h3, h4⟩ := h
  obtain ⟨a1, c1, a2, c2, a3, c3, a4, c4, _, _, _, _, _, z1, z2, z3, z4, _⟩ := hm
  obtain ⟨g1, rfl, _, _, r1⟩ := h1.row
  obtain ⟨g2, rfl, _, _, r2⟩ := h2.row
  obtain ⟨g3, rfl, _, _, r3⟩ := h3.row
  obtain ⟨g4, rfl, _, _, r4⟩ := h4.row
  exact ⟨_, _, _, _, _, _, _, _, rfl, r1, r2, r3, r4, z1, z2, z3, z4, by omega, by omega, by omega, by omega⟩

theorem RoomM.below {w w' : World} {N : Nat} {v : Value} {m : MI} (h : RoomM w N v m) (hb : Below w.heap.size w w') : RoomM w' N v m := by
  obtain ⟨v1, v2, v3, v4, e, h1, h2, h3, h4⟩ := h
  exact ⟨v1, v2, v3, v4, e, h1.below hb, h2.below hb, h3.below hb, h4.below hb⟩

set_option maxRecDepth 100000 in
set_option maxHeartbeats 2000000 in
theorem whole_true (m : MI) (v v' : Value) (N N' : Nat) (w : World) (h1 : RoomM w N v m) (h2 : MsgAt w N' v' m) (hl : Lens m) (hN' : N' ≤ w.heap.size) :
    Calls Try.prog 15 #[v, v'] w fun e w' => e = .returned (.bool true) ∧ Below w.heap.size w w' := by
  have hM := h1.msg h2
  have K1 := hide (fun W (hb : Below w.heap.size w W) => sameMessageI_true m v v' w.heap.size N' W (hM.below hb) (h2.below (hb.mono hN')) hl hb.size (Nat.le_trans hN' hb.size))
  obtain ⟨v1, v2, v3, v4, rfl, q1, q2, q3, q4⟩ := h1
  obtain ⟨b1, d1, b2, d2, b3, d3, b4, d4, rfl, r1, r2, r3, r4, _⟩ := h2
  obtain ⟨s1, s2, s3, s4⟩ := hl
  have K2 := hide (fun W (hb : Below w.heap.size w W) => wholeRecords_true m.a v2 b2 d2 N N' W (q2.below hb) (r2.below (hb.mono hN')) s2)
  have K3 := hide (fun W (hb : Below w.heap.size w W) => wholeRecords_true m.u v3 b3 d3 N N' W (q3.below hb) (r3.below (hb.mono hN')) s3)
  have K4 := hide (fun W (hb : Below w.heap.size w W) => wholeRecords_true m.x v4 b4 d4 N N' W (q4.below hb) (r4.below (hb.mono hN')) s4)
  obtain ⟨g2, rfl, _, _, _⟩ := q2.row
  obtain ⟨g3, rfl, _, _, _⟩ := q3.row
  obtain ⟨g4, rfl, _, _, _⟩ := q4.row
  obtain ⟨g, rfl, _, hg⟩ := q1
  have hc := (cell_of_blk hg (m.q.length * 3 + 1)).trans (at_mark _ _ _ _ _ (qcI_len m.q))
  have hlg := blk_lt hg
  clear hM q2 q3 q4 r1 r2 r3 r4 hg
  obtain ⟨id, fl, q, a, u, x⟩ := m
  simp only at *
  generalize q.length = n at *
  obtain ⟨W0, hW0⟩ : ∃ W0, (w.alloc (.cells #[.int .i64 id, .int .i64 fl, .slice (some ⟨g, 0, none⟩) n (n + 1), .slice (some ⟨g2, 0, none⟩) a.length (a.length + 1), .slice (some ⟨g3, 0, none⟩) u.length (u.length + 1), .slice (some ⟨g4, 0, none⟩) x.length (x.length + 1)] 25)).alloc (.cells #[.int .i64 id, .int .i64 fl, .slice b1 n d1, .slice b2 a.length d2, .slice b3 u.length d3, .slice b4 x.length d4] 25) = W0 := ⟨_, rfl⟩
  obtain ⟨tA, tB⟩ := two_new w (.cells #[.int .i64 id, .int .i64 fl, .slice (some ⟨g, 0, none⟩) n (n + 1), .slice (some ⟨g2, 0, none⟩) a.length (a.length + 1), .slice (some ⟨g3, 0, none⟩) u.length (u.length + 1), .slice (some ⟨g4, 0, none⟩) x.length (x.length + 1)] 25) (.cells #[.int .i64 id, .int .i64 fl, .slice b1 n d1, .slice b2 a.length d2, .slice b3 u.length d3, .slice b4 x.length d4] 25)
  rw [hW0] at tA tB
  have hBel : Below w.heap.size w W0 := by rw [← hW0]; exact ((Below.refl _ _).alloc (Nat.le_refl _) _).alloc (by simp) _
  have HW0 := hide hW0
  have TA := hide tA
  have TB := hide tB
  clear hW0 tA tB
  have h77 : ((77 : Int) == 77) = true := rfl
  go_enter Try.func15, Try.ntmps15
  go_wp2_with fail
  rw [unhide HW0]
  refine (unhide K1 _ hBel).mono ?_
  rintro e w1 ⟨rfl, hb1⟩
  have hB1 := hBel.trans (hb1.mono hBel.size)
  have TA1 := hide ((hb1.block _ (blk_lt (unhide TA))).trans (unhide TA))
  have TB1 := hide ((hb1.block _ (blk_lt (unhide TB))).trans (unhide TB))
  obtain ⟨⟨a0, a1, a2, a3, a4, a5⟩, _⟩ := cells6 (unhide TA1)
  obtain ⟨⟨c0, c1, c2, c3, c4, c5⟩, _⟩ := cells6 (unhide TB1)
  have i1 : (0 : Int) ≤ (n : Int) + 1 := by omega
  go_wp2_with fail
  refine (unhide K2 _ hB1).mono ?_
  rintro e w2 ⟨rfl, hb2⟩
  have hB2 := hB1.trans (hb2.mono hB1.size)
  have TA2 := hide ((hb2.block _ (blk_lt (unhide TA1))).trans (unhide TA1))
  have TB2 := hide ((hb2.block _ (blk_lt (unhide TB1))).trans (unhide TB1))
  clear a0 a1 a2 a3 a4 a5 c0 c1 c2 c3 c4 c5
  obtain ⟨⟨a0, a1, a2, a3, a4, a5⟩, _⟩ := cells6 (unhide TA2)
  obtain ⟨⟨c0, c1, c2, c3, c4, c5⟩, _⟩ := cells6 (unhide TB2)
  go_wp2_with fail
  refine (unhide K3 _ hB2).mono ?_
  rintro e w3 ⟨rfl, hb3⟩
  have hB3 := hB2.trans (hb3.mono hB2.size)
  have TA3 := hide ((hb3.block _ (blk_lt (unhide TA2))).trans (unhide TA2))
  have TB3 := hide ((hb3.block _ (blk_lt (unhide TB2))).trans (unhide TB2))
  clear a0 a1 a2 a3 a4 a5 c0 c1 c2 c3 c4 c5
  obtain ⟨⟨a0, a1, a2, a3, a4, a5⟩, _⟩ := cells6 (unhide TA3)
  obtain ⟨⟨c0, c1, c2, c3, c4, c5⟩, _⟩ := cells6 (unhide TB3)
  go_wp2_with fail
  refine (unhide K4 _ hB3).mono ?_
  rintro e w4 ⟨rfl, hb4⟩
  have hB4 := hB3.trans (hb4.mono hB3.size)
  have hc4 := (hB4.cell (p := ⟨g, n * 3 + 1, none⟩) hlg).trans hc
  clear a0 a1 a2 a3 a4 a5 c0 c1 c2 c3 c4 c5
  go_wp2_with fail
  go_ret
  exact ⟨rfl, hB4⟩

set_option maxRecDepth 100000 in
set_option maxHeartbeats 2000000 in
theorem serials_any (m : MI) (v : Value) (w : World) (hm : MsgAt w w.heap.size v m) (hl : Lens m) :
    Calls Try.prog 4 #[v] w fun e w' => e = .returned (.bool true) ∧ Below w.heap.size w w' := by
  have K1 := hide (fun W (hb : Below w.heap.size w W) => roomy_any m v W ((hm.below hb).mono hb.size) hl)
  have K3 := hide (fun W (hb : Below w.heap.size w W) => refSerialize_any m v W ((hm.below hb).mono hb.size))
  have K2 := hide (fun W (hb : Below w.heap.size w W) v' N (h : RoomM W N v' m) => zoneSerialize_any m v' W (h.msg (hm.below hb)))
  have K4 := hide (fun W (hb : Below w.heap.size w W) v' N (h : RoomM W N v' m) => whole_true m v' v N w.heap.size W h (hm.below hb) hl hb.size)
  obtain ⟨a1, c1, a2, c2, a3, c3, a4, c4, rfl, _⟩ := hm
  obtain ⟨N, hN⟩ : ∃ N, w.heap.size = N := ⟨_, rfl⟩
  rw [hN] at K1 K2 K3 K4 ⊢
  generalize hB0 : (w.alloc (.cells #[.int .i64 m.id, .int .i64 m.flags, .slice a1 m.q.length c1, .slice a2 m.a.length c2, .slice a3 m.u.length c3, .slice a4 m.x.length c4] 25)) = W0
  have hW0 : W0.heap[N]? = some (.cells #[.int .i64 m.id, .int .i64 m.flags, .slice a1 m.q.length c1, .slice a2 m.a.length c2, .slice a3 m.u.length c3, .slice a4 m.x.length c4] 25 (0, 0)) := by rw [← hB0, ← hN]; exact heap_alloc_new _ _
  have hB1 : Below N w W0 := by rw [← hB0, ← hN]; exact (Below.refl _ _).alloc (Nat.le_refl _) _
  have hs0 : W0.heap.size = N + 1 := by rw [← hB0]; simp; omega
  have HB0 := hide hB0
  have HX := hide hW0
  clear hB0 hW0
  go_enter Try.func4, Try.ntmps4
  obtain ⟨⟨b0, b1, b2, b3, b4, b5⟩, _⟩ := cells6 (unhide HX)
  go_wp2_with fail
  rw [unhide HB0]
  clear HB0
  refine (unhide K1 _ hB1).mono ?_
  rintro e w1 ⟨⟨v', rfl, hv'⟩, hb1⟩
  have HV1 := hide hv'
  obtain ⟨v1, v2, v3, v4, rfl, q1, q2, q3, q4⟩ := hv'
  obtain ⟨g1, rfl, _, _, _⟩ := q1.row
  obtain ⟨g2, rfl, _, _, _⟩ := q2.row
  obtain ⟨g3, rfl, _, _, _⟩ := q3.row
  obtain ⟨g4, rfl, _, _, _⟩ := q4.row
  clear q1 q2 q3 q4 K1 b0 b1 b2 b3 b4 b5
  have hB2 := hB1.trans (hb1.mono (by omega))
  have HX1 := hide ((hb1.block N (by omega)).trans (unhide HX))
  obtain ⟨R, hR⟩ : ∃ R, w1.heap.size = R := ⟨_, rfl⟩
  have hs1 := hB2.size
  have hal := (Below.refl w1.heap.size w1).alloc (Nat.le_refl _) (.cells #[.int .i64 m.id, .int .i64 m.flags, .slice (some ⟨g1, 0, none⟩) m.q.length (m.q.length + 1), .slice (some ⟨g2, 0, none⟩) m.a.length (m.a.length + 1), .slice (some ⟨g3, 0, none⟩) m.u.length (m.u.length + 1), .slice (some ⟨g4, 0, none⟩) m.x.length (m.x.length + 1)] 25)
  have HXR := hide (heap_alloc_new w1 (.cells #[.int .i64 m.id, .int .i64 m.flags, .slice (some ⟨g1, 0, none⟩) m.q.length (m.q.length + 1), .slice (some ⟨g2, 0, none⟩) m.a.length (m.a.length + 1), .slice (some ⟨g3, 0, none⟩) m.u.length (m.u.length + 1), .slice (some ⟨g4, 0, none⟩) m.x.length (m.x.length + 1)] 25))
  have HV2 := hide ((unhide HV1).below hal)
  have HX2 := hide ((hal.block N (blk_lt (unhide HX1))).trans (unhide HX1))
  have HB2 := hide (hB2.trans (hal.mono (by omega)))
  rw [hR] at HXR
  clear hal
  go_wp2_with fail
  refine (unhide K2 _ (unhide HB2) _ _ (unhide HV2)).mono ?_
  rintro e w3 ⟨⟨s, x, rfl, hsx⟩, hb3⟩
  have HV3 := hide ((unhide HV2).below hb3)
  have HX3 := hide ((hb3.block N (blk_lt (unhide HX2))).trans (unhide HX2))
  have HR3 := hide ((hb3.block R (blk_lt (unhide HXR))).trans (unhide HXR))
  have HB3 := hide ((unhide HB2).trans (hb3.mono (by have := (unhide HB2).size; omega)))
  have HS1 := hide hsx
  clear hsx hb3 HV2 HX2 HXR HB2
  obtain ⟨⟨b0, b1, b2, b3, b4, b5⟩, _⟩ := cells6 (unhide HX3)
  go_wp2_with fail
  refine (unhide K3 _ (unhide HB3)).mono ?_
  rintro e w4 ⟨⟨t, y, rfl, hty⟩, hb4⟩
  obtain ⟨rfl, rfl⟩ := (unhide HS1).same hty
  have HV4 := hide ((unhide HV3).below hb4)
  have HX4 := hide ((hb4.block N (blk_lt (unhide HX3))).trans (unhide HX3))
  have HR4 := hide ((hb4.block R (blk_lt (unhide HR3))).trans (unhide HR3))
  have HB4 := hide ((unhide HB3).trans (hb4.mono (by have := (unhide HB3).size; omega)))
  clear hty hb4 HV3 HX3 HR3 HB3 b0 b1 b2 b3 b4 b5 HS1
  obtain ⟨⟨b0, b1, b2, b3, b4, b5⟩, _⟩ := cells6 (unhide HX4)
  obtain ⟨⟨r0, r1, r2, r3, r4, r5⟩, _⟩ := cells6 (unhide HR4)
  go_wp2_with fail
  refine (unhide K4 _ (unhide HB4) _ _ (unhide HV4)).mono ?_
  rintro e w5 ⟨rfl, hb5⟩
  have HB5 := hide ((unhide HB4).trans (hb5.mono (by have := (unhide HB4).size; omega)))
  have he1 : (s.toList == s.toList) = true := by simp
  have he2 : (x == x) = true := by simp
  clear b0 b1 b2 b3 b4 b5 r0 r1 r2 r3 r4 r5
  go_wp2_with fail
  go_ret
  exact ⟨rfl, unhide HB5⟩

end Go.Proofs.Ytdhobdmhnocbgaa
