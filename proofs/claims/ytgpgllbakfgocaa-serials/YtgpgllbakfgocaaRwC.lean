/-
  Walks over the document's own answer: which messages are well made (wellPart, Well).
-/
import Derived.Test.YtgpgllbakfgocaaRwB
namespace Go.Proofs.Ytgpgllbakfgocaa
open Go.RowKit Zr

theorem below_drew {B : Nat} {a w : World} (h : Below B a w) : Below B a w.drew := ⟨h.os, h.tape, h.output, h.size, h.block⟩

theorem rowAt_take {w : World} {N : Nat} {a : Option Addr} {l : List RI} (h : RowAt w N a (rcI l)) (j : Nat) : RowAt w N a (rcI (l.take j)) := by
  intro hx
  have hp : ∀ (k : Nat) (u : Value), (rcI (l.take j))[k]? = some u → (rcI l)[k]? = some u := by
    intro k u hu
    have e : rcI l = rcI (l.take j) ++ rcI (l.drop j) := by unfold rcI; rw [← List.flatMap_append, List.take_append_drop]
    rw [e, List.getElem?_append_left (List.getElem?_eq_some_iff.1 hu).1]
    exact hu
  have hne : rcI l ≠ [] := fun e => by
    cases hh : rcI (l.take j) with
    | nil => exact hx hh
    | cons u r =>
      have := hp 0 u (by rw [hh]; rfl)
      rw [e] at this
      simp at this
  obtain ⟨b, o, h1, h2, h3⟩ := h hne
  exact ⟨b, o, h1, h2, fun k u hu => h3 k u (hp k u hu)⟩

set_option maxRecDepth 100000 in
set_option maxHeartbeats 2000000 in
theorem wellPart_any (l : List RI) (part : Nat) (a : Option Addr) (c N : Nat) (w : World) (hrow : RowAt w N a (rcI l)) (hN : N ≤ w.heap.size) (hz : RSized l) (hc : l.length ≤ c) :
    Calls Try.prog 54 #[.slice a l.length c, .int .i64 part] w fun e w' => BoolIs (partOk l part) e ∧ Below w.heap.size w w' := by
  have HRow := hide hrow
  have HZ := hide hz
  clear hrow hz
  by_cases cl : 65535 < l.length
  · go_enter Try.func54, Try.ntmps54
    go_wp2_with fail
    go_ret
    exact ⟨⟨_, rfl, ⟨fun h => by simp at h, fun h => absurd h.1 (by omega)⟩⟩, Below.refl _ _⟩
  · go_enter Try.func54, Try.ntmps54
    go_wp2_with fail
    go_loopw [5] (fun i w' => ∃ (j : Nat), j ≤ l.length ∧ i = .int .i64 j ∧ Hid (Below w.heap.size w w') ∧ Hid (∀ k (h : k < l.length), k < j → recOk l[k] ∧ ¬ misI (l.take k) l[k] part)) (fun i _ => l.length - (intOf i).toNat)
    case atStart => exact ⟨0, Nat.zero_le _, rfl, Below.refl _ _, fun k _ hk => by omega⟩
    case round =>
      obtain ⟨j, hj, rfl, hB, hq⟩ := hrel
      by_cases cj : j < l.length
      · obtain ⟨b, o, rfl, hb, x0, x1, x2, x3, x4⟩ := row_r ((unhide HRow).below ((unhide hB).mono hN)) j cj
        have hsz := (unhide HZ j cj).1
        have HNo : Hid (¬ (recOk l[j] ∧ ¬ misI (l.take j) l[j] part) → ¬ partOk l part) := fun h1 h2 => h1 (h2.2 j cj)
        have HYes : Hid (recOk l[j] ∧ ¬ misI (l.take j) l[j] part → ∀ k (h : k < l.length), k < j + 1 → recOk l[k] ∧ ¬ misI (l.take k) l[k] part) := fun h1 k hk hkj => by
          by_cases e : k = j
          · subst e; exact h1
          · exact unhide hq k hk (by omega)
        have key := fun w => wellRecord_any l[j] w hsz
        have key2 : ∀ W, Below N w W → N ≤ W.heap.size → ∀ c, Calls Try.prog 43 #[.slice (some ⟨b, o, none⟩) j c, .agg #[.string l[j].name, .int .i64 l[j].ty, .int .i64 l[j].cl, .int .i64 l[j].ttl, .string l[j].data], .int .i64 part] W fun e w' => BoolIs (misI (l.take j) l[j] part) e ∧ Below W.heap.size W w' := by
          intro W hb hs c
          have h1 := misplacedI_any (l.take j) l[j] part (some ⟨b, o, none⟩) c N W (rowAt_take ((unhide HRow).below hb) j) hs (by rw [List.length_take]; omega)
          have e1 : (l.take j).length = j := by rw [List.length_take]; omega
          rw [e1] at h1
          exact h1
        unfold rValI at key
        have Key := hide key
        have Key2 := hide key2
        clear key key2
        generalize misI (l.take j) l[j] part = M at *
        generalize recOk l[j] = OK at *
        generalize l[j] = x at *
        obtain ⟨nm, ty, kl, ttl, dt⟩ := x
        simp only at *
        have hsB := (unhide hB).size
        go_wp2_with fail
        refine (unhide Key _).mono ?_
        rintro e w1 ⟨⟨v, rfl, hv⟩, hb1⟩
        have hbb := (unhide hB).trans (hb1.mono (unhide hB).size)
        have y0 := (hb1.cell (p := ⟨b, o + j * 5, none⟩) (by show b < _; omega)).trans x0
        have y1 := (hb1.cell (p := ⟨b, o + j * 5 + 1, none⟩) (by show b < _; omega)).trans x1
        have y2 := (hb1.cell (p := ⟨b, o + j * 5 + 2, none⟩) (by show b < _; omega)).trans x2
        have y3 := (hb1.cell (p := ⟨b, o + j * 5 + 3, none⟩) (by show b < _; omega)).trans x3
        have y4 := (hb1.cell (p := ⟨b, o + j * 5 + 4, none⟩) (by show b < _; omega)).trans x4
        have hs1 := hbb.size
        have HV := hide hv
        have HBB := hide hbb
        clear hv x0 x1 x2 x3 x4 hbb Key hb1
        cases v with
        | false =>
          go_wp2_with fail
          go_ret
          exact ⟨⟨_, rfl, ⟨fun h => by simp at h, fun h => absurd h (unhide HNo fun h2 => absurd ((unhide HV).2 h2.1) (by simp))⟩⟩, unhide HBB⟩
        | true =>
          have hi1 : (0 : Int) ≤ (j : Int) := by omega
          have hi2 : (j : Int) ≤ (c : Int) := by omega
          have hi3 : (j : Int) < (l.length : Int) := by omega
          go_wp2_with fail
          go_cut [5, 7] (fun i v w' => i = .int .i64 j ∧ ∃ b, v = .bool b ∧ Hid (b = true ↔ M) ∧ Hid (Below w.heap.size w w'))
          case first =>
            go_region_held3 (fun w' => w'.cell? ⟨b, o + j * 5, none⟩ = some (.string nm) ∧ w'.cell? ⟨b, o + j * 5 + 1, none⟩ = some (.int .i64 ty) ∧ w'.cell? ⟨b, o + j * 5 + 2, none⟩ = some (.int .i64 kl) ∧ w'.cell? ⟨b, o + j * 5 + 3, none⟩ = some (.int .i64 ttl) ∧ w'.cell? ⟨b, o + j * 5 + 4, none⟩ = some (.string dt)) (go_keep)
              (first | (go_at_call 43; refine (unhide Key2 _ (below_drew ((unhide HBB).mono hN)) (Nat.le_trans hN hs1) _).mono ?_; rintro e w2 ⟨⟨v, rfl, hv⟩, hb2⟩; have z0 : w2.cell? ⟨b, o + j * 5, none⟩ = some (.string nm) := (hb2.cell (p := ⟨b, o + j * 5, none⟩) (show b < w1.heap.size by omega)).trans y0; have z1 : w2.cell? ⟨b, o + j * 5 + 1, none⟩ = some (.int .i64 ty) := (hb2.cell (p := ⟨b, o + j * 5 + 1, none⟩) (show b < w1.heap.size by omega)).trans y1; have z2 : w2.cell? ⟨b, o + j * 5 + 2, none⟩ = some (.int .i64 kl) := (hb2.cell (p := ⟨b, o + j * 5 + 2, none⟩) (show b < w1.heap.size by omega)).trans y2; have z3 : w2.cell? ⟨b, o + j * 5 + 3, none⟩ = some (.int .i64 ttl) := (hb2.cell (p := ⟨b, o + j * 5 + 3, none⟩) (show b < w1.heap.size by omega)).trans y3; have z4 : w2.cell? ⟨b, o + j * 5 + 4, none⟩ = some (.string dt) := (hb2.cell (p := ⟨b, o + j * 5 + 4, none⟩) (show b < w1.heap.size by omega)).trans y4))
            all_goals go_wp2_with fail
            all_goals go_meet
            all_goals
              have hb3 := below_undrew hb2
              exact ⟨rfl, _, rfl, hv, (unhide HBB).trans (hb3.mono hs1)⟩
          case rest =>
            obtain ⟨rfl, v, rfl, hv, hB3⟩ := hcut
            cases v with
            | true =>
              go_wp2_with fail
              go_ret
              exact ⟨⟨_, rfl, ⟨fun h => by simp at h, fun h => absurd h (unhide HNo fun h2 => h2.2 ((unhide hv).1 (by simp)))⟩⟩, unhide hB3⟩
            | false =>
              have hyes := unhide HYes ⟨(unhide HV).1 (by simp), fun h => absurd ((unhide hv).2 h) (by simp)⟩
              have HY := hide hyes
              clear hyes
              go_wp2_with fail
              go_roundw
              case rel => exact ⟨j + 1, by omega, by go_num, hB3, HY⟩
              case measure => simp [intOf]; omega
      · go_wp2_with fail
        go_ret
        exact ⟨⟨_, rfl, ⟨fun _ => ⟨by omega, fun k hk => unhide hq k hk (by omega)⟩, fun _ => rfl⟩⟩, unhide hB⟩

theorem grew_alloc {W0 W w1 : World} {N : Nat} (hB : Below N W0 W) (o : Obj) (hs : N ≤ W.heap.size) (hb : w1 = W.alloc o) : Below N W0 w1 := by
  subst hb
  exact hB.trans (((Below.refl _ _).alloc (Nat.le_refl _) _).mono hs)

set_option maxRecDepth 100000 in
set_option maxHeartbeats 2000000 in
theorem well_any (m : MI) (v : Value) (N : Nat) (w : World) (h : MsgAt w N v m) (hN : N ≤ w.heap.size) :
    Calls Try.prog 24 #[v] w fun e w' => BoolIs (msgOk m) e ∧ Below w.heap.size w w' := by
  obtain ⟨a1, c1, a2, c2, a3, c3, a4, c4, rfl, r1, r2, r3, r4, z1, z2, z3, z4, k1, k2, k3, k4⟩ := h
  have HOk : Hid (msgOk m ↔ (0 ≤ m.id ∧ m.id ≤ 65535) ∧ (0 ≤ m.flags ∧ m.flags ≤ 65535) ∧ (m.q.length ≤ 65535 ∧ ∀ i (h : i < m.q.length), queOk m.q[i]) ∧ partOk m.a 0 ∧ partOk m.u 1 ∧ partOk m.x 2) := Iff.rfl
  generalize msgOk m = ok at *
  obtain ⟨id, fl, q, a, u, x⟩ := m
  simp only at r1 r2 r3 r4 z1 z2 z3 z4 k1 k2 k3 k4 HOk ⊢
  have key2 := fun W (hb : Below N w W) (hs : N ≤ W.heap.size) => wellPart_any a 0 a2 c2 N W (r2.below hb) hs z2 k2
  have key3 := fun W (hb : Below N w W) (hs : N ≤ W.heap.size) => wellPart_any u 1 a3 c3 N W (r3.below hb) hs z3 k3
  have key4 := fun W (hb : Below N w W) (hs : N ≤ W.heap.size) => wellPart_any x 2 a4 c4 N W (r4.below hb) hs z4 k4
  have K2 := hide key2
  have K3 := hide key3
  have K4 := hide key4
  have R1 := hide (fun W (hb : Below N w W) => r1.below hb)
  have Z1 := hide z1
  clear key2 key3 key4 r1 r2 r3 r4 z1 z2 z3 z4 k1 k2 k3 k4
  generalize partOk a 0 = pa at *
  generalize partOk u 1 = pu at *
  generalize partOk x 2 = px at *
  generalize hB0 : (w.alloc (.cells #[.int .i64 id, .int .i64 fl, .slice a1 q.length c1, .slice a2 a.length c2, .slice a3 u.length c3, .slice a4 x.length c4] 25)) = W0
  have hW0 : W0.heap[w.heap.size]? = some (.cells #[.int .i64 id, .int .i64 fl, .slice a1 q.length c1, .slice a2 a.length c2, .slice a3 u.length c3, .slice a4 x.length c4] 25 (0, 0)) := by rw [← hB0]; exact heap_alloc_new _ _
  have hB1 : Below w.heap.size w W0 := by rw [← hB0]; exact (Below.refl _ _).alloc (Nat.le_refl _) _
  have hz0 : w.heap.size + 1 = W0.heap.size := by rw [← hB0]; simp
  have HB0 := hide hB0
  clear hB0
  go_enter Try.func24, Try.ntmps24
  go_wp2_with fail
  rw [unhide HB0]
  clear HB0
  obtain ⟨⟨b0, b1, b2, b3, b4, b5⟩, y0, y1, y2, y3, y4, y5⟩ := cells6 hW0
  have HW0 := hide hW0
  clear hW0
  refine (refWord_any id 65535 _).mono ?_
  rintro e w2 ⟨⟨v1, rfl, hv⟩, hw2⟩
  have V1 := hide hv
  rw [hw2]
  clear hv hw2 w2
  go_wp2_with fail
  refine (refWord_any fl 65535 _).mono ?_
  rintro e w2 ⟨⟨v2, rfl, hv⟩, hw2⟩
  have V2 := hide hv
  rw [hw2]
  clear hv hw2 w2
  cases v1 with
  | false =>
    go_wp2_with fail
    go_ret
    exact ⟨⟨_, rfl, ⟨fun h => by simp at h, fun h => absurd ((unhide V1).2 ((unhide HOk).1 h).1) (by simp)⟩⟩, hB1⟩
  | true =>
  cases v2 with
  | false =>
    go_wp2_with fail
    go_ret
    exact ⟨⟨_, rfl, ⟨fun h => by simp at h, fun h => absurd ((unhide V2).2 ((unhide HOk).1 h).2.1) (by simp)⟩⟩, hB1⟩
  | true =>
  by_cases cq : 65535 < q.length
  · go_wp2_with fail
    go_ret
    exact ⟨⟨_, rfl, ⟨fun h => by simp at h, fun h => absurd ((unhide HOk).1 h).2.2.1.1 (by omega)⟩⟩, hB1⟩
  · go_wp2_with fail
    go_loopw [5] (fun i w' => ∃ (j : Nat), j ≤ q.length ∧ i = .int .i64 j ∧ Hid (w'.heap[w.heap.size]? = some (.cells #[.int .i64 id, .int .i64 fl, .slice a1 q.length c1, .slice a2 a.length c2, .slice a3 u.length c3, .slice a4 x.length c4] 25 (0, 0))) ∧ Hid (Below w.heap.size w w') ∧ Hid (∀ k (h : k < q.length), k < j → queOk q[k])) (fun i _ => q.length - (intOf i).toNat)
    case atStart => exact ⟨0, Nat.zero_le _, rfl, HW0, hB1, fun k _ hk => by omega⟩
    case round =>
      obtain ⟨j, hj, rfl, hX, hB, hq⟩ := hrel
      clear b0 b1 b2 b3 b4 b5 y0 y1 y2 y3 y4 y5
      obtain ⟨⟨b0, b1, b2, b3, b4, b5⟩, y0, y1, y2, y3, y4, y5⟩ := cells6 (unhide hX)
      have hlt := blk_lt (unhide hX)
      by_cases cj : j < q.length
      · obtain ⟨b, o, rfl, hb, x0, x1, x2⟩ := row_q (unhide R1 _ ((unhide hB).mono hN)) j cj
        have hsz := unhide Z1 j cj
        have HQ : Hid (queOk q[j] ↔ wholeB q[j].name = true ∧ (0 ≤ q[j].ty ∧ q[j].ty ≤ 65535) ∧ (0 ≤ q[j].cl ∧ q[j].cl ≤ 65535)) := Iff.rfl
        have HNo : Hid (¬ queOk q[j] → ¬ ok) := fun h1 h2 => h1 (((unhide HOk).1 h2).2.2.1.2 j cj)
        have HYes : Hid (queOk q[j] → ∀ k (h : k < q.length), k < j + 1 → queOk q[k]) := fun h1 k hk hkj => by
          by_cases e : k = j
          · subst e; exact h1
          · exact unhide hq k hk (by omega)
        have key := fun w => whole_any q[j].name w hsz
        have Key := hide key
        clear key
        generalize queOk q[j] = Q at *
        generalize q[j].name = nm at *
        generalize q[j].ty = ty at *
        generalize q[j].cl = kl at *
        generalize wholeB nm = bn at *
        have hB2 := (unhide hB).trans (((Below.refl wr.heap.size wr).alloc (Nat.le_refl _) (.cells #[.string nm, .int .i64 ty, .int .i64 kl] 45)).mono (unhide hB).size)
        have HB2 := hide hB2
        have HX2 := hide ((Below.heap_alloc wr (.cells #[.string nm, .int .i64 ty, .int .i64 kl] 45) w.heap.size hlt).trans (unhide hX))
        clear hB2
        go_wp2_with fail
        refine (unhide Key _).mono ?_
        rintro e w2 ⟨rfl, hw2⟩
        rw [hw2]
        clear hw2 w2
        go_wp2_with fail
        refine (refWord_any ty 65535 _).mono ?_
        rintro e w2 ⟨⟨v3, rfl, hv⟩, hw2⟩
        have V3 := hide hv
        rw [hw2]
        clear hv hw2 w2
        go_wp2_with fail
        refine (refWord_any kl 65535 _).mono ?_
        rintro e w2 ⟨⟨v4, rfl, hv⟩, hw2⟩
        have V4 := hide hv
        rw [hw2]
        clear hv hw2 w2 x0 x1 x2 Key
        cases bn with
        | false =>
          go_wp2_with fail
          go_ret
          exact ⟨⟨_, rfl, ⟨fun h => by simp at h, fun h => absurd h (unhide HNo fun h2 => absurd ((unhide HQ).1 h2).1 (by simp))⟩⟩, unhide HB2⟩
        | true =>
          cases v3 with
          | false =>
            go_wp2_with fail
            go_ret
            exact ⟨⟨_, rfl, ⟨fun h => by simp at h, fun h => absurd h (unhide HNo fun h2 => absurd ((unhide V3).2 ((unhide HQ).1 h2).2.1) (by simp))⟩⟩, unhide HB2⟩
          | true =>
            cases v4 with
            | false =>
              go_wp2_with fail
              go_ret
              exact ⟨⟨_, rfl, ⟨fun h => by simp at h, fun h => absurd h (unhide HNo fun h2 => absurd ((unhide V4).2 ((unhide HQ).1 h2).2.2) (by simp))⟩⟩, unhide HB2⟩
            | true =>
              have hyes := unhide HYes ((unhide HQ).2 ⟨by simp, (unhide V3).1 (by simp), (unhide V4).1 (by simp)⟩)
              have HY := hide hyes
              clear hyes
              go_wp2_with fail
              go_roundw
              case rel => exact ⟨j + 1, by omega, by go_num, HX2, HB2, HY⟩
              case measure => simp [intOf]; omega
      · have hqs : q.length ≤ 65535 ∧ ∀ i (h : i < q.length), queOk q[i] := ⟨by omega, fun k hk => unhide hq k hk (by omega)⟩
        have HQs := hide hqs
        clear hqs
        have hsB := (unhide hB).size
        go_wp2_with fail
        refine (unhide K2 _ ((unhide hB).mono hN) (by omega)).mono ?_
        rintro e w3 ⟨⟨v5, rfl, hv⟩, hb3⟩
        have V5 := hide hv
        have hB3 := (unhide hB).trans (hb3.mono (unhide hB).size)
        have HX3 := hide ((hb3.block w.heap.size hlt).trans (unhide hX))
        clear hv b0 b1 b2 b3 b4 b5 y0 y1 y2 y3 y4 y5
        obtain ⟨⟨b0, b1, b2, b3, b4, b5⟩, y0, y1, y2, y3, y4, y5⟩ := cells6 (unhide HX3)
        have hs3 := hB3.size
        have hl3 := blk_lt (unhide HX3)
        go_wp2_with fail
        refine (unhide K3 _ (hB3.mono hN) (by omega)).mono ?_
        rintro e w4 ⟨⟨v6, rfl, hv⟩, hb4⟩
        have V6 := hide hv
        have hB4 := hB3.trans (hb4.mono hB3.size)
        have HX4 := hide ((hb4.block w.heap.size hl3).trans (unhide HX3))
        clear hv b0 b1 b2 b3 b4 b5 y0 y1 y2 y3 y4 y5
        obtain ⟨⟨b0, b1, b2, b3, b4, b5⟩, y0, y1, y2, y3, y4, y5⟩ := cells6 (unhide HX4)
        have hs4 := hB4.size
        go_wp2_with fail
        refine (unhide K4 _ (hB4.mono hN) (by omega)).mono ?_
        rintro e w5 ⟨⟨v7, rfl, hv⟩, hb5⟩
        have V7 := hide hv
        have hB5 := hB4.trans (hb5.mono hB4.size)
        clear hv b0 b1 b2 b3 b4 b5 y0 y1 y2 y3 y4 y5
        cases v5 with
        | false =>
          go_wp2_with fail
          go_ret
          exact ⟨⟨_, rfl, ⟨fun h => by simp at h, fun h => absurd ((unhide V5).2 ((unhide HOk).1 h).2.2.2.1) (by simp)⟩⟩, hB5⟩
        | true =>
          cases v6 with
          | false =>
            go_wp2_with fail
            go_ret
            exact ⟨⟨_, rfl, ⟨fun h => by simp at h, fun h => absurd ((unhide V6).2 ((unhide HOk).1 h).2.2.2.2.1) (by simp)⟩⟩, hB5⟩
          | true =>
            go_wp2_with fail
            go_ret
            refine ⟨⟨_, rfl, ?_⟩, hB5⟩
            rw [unhide V7, unhide HOk]
            exact ⟨fun h => ⟨(unhide V1).1 (by simp), (unhide V2).1 (by simp), unhide HQs, (unhide V5).1 (by simp), (unhide V6).1 (by simp), h⟩, fun h => h.2.2.2.2.2⟩

end Go.Proofs.Ytgpgllbakfgocaa
