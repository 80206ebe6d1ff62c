/-
  Walks over zonekeep: the bytes that spell records, and a whole message.
-/
import Derived.Test.YtdhobdmhnocbgaaDntB
namespace Go.Proofs.Ytdhobdmhnocbgaa
open Go.RowKit Zr

theorem cell_ltK {w : World} {a : Addr} {v : Value} (h : w.cell? a = some v) : a.block < w.heap.size := by
  rcases Nat.lt_or_ge a.block w.heap.size with hb | hb
  · exact hb
  · simp [World.cell?, hb] at h

theorem rc_len (b : ByteArray) (part k : Nat) : ∀ m L P, rcTo b part k m = .ok (L, P) → L.length = m := by
  intro m
  induction m with
  | zero => intro L P h; simp only [rcTo, Except.ok.injEq, Prod.mk.injEq] at h; rw [← h.1]; rfl
  | succ m ih =>
    intro L P h
    rw [rcTo] at h
    cases h1 : rcTo b part k m with
    | error x => rw [h1] at h; simp at h
    | ok q =>
      obtain ⟨l, p⟩ := q
      rw [h1] at h
      simp only at h
      cases h2 : recordAt b p with
      | error x => rw [h2] at h; simp at h
      | ok q2 =>
        obtain ⟨x, p'⟩ := q2
        rw [h2] at h
        simp only at h
        split at h
        · simp at h
        · simp only [Except.ok.injEq, Prod.mk.injEq] at h
          rw [← h.1, List.length_append, ih l p h1]
          rfl

theorem rc_next (b : ByteArray) (part k : Nat) : ∀ m L P, rcTo b part k m = .ok (L, P) → ∀ j (hj : j < L.length), ∃ p p', rcTo b part k j = .ok (L.take j, p) ∧ recordAt b p = .ok (L[j], p') ∧ rcTo b part k (j + 1) = .ok (L.take (j + 1), p') ∧ misB (L.take j) L[j] part = false := by
  intro m
  induction m with
  | zero => intro L P h j hj; have := rc_len b part k 0 L P h; omega
  | succ m ih =>
    intro L P h j hj
    have hl := rc_len b part k (m + 1) L P h
    have h0 := h
    rw [rcTo] at h
    cases h1 : rcTo b part k m with
    | error x => rw [h1] at h; simp at h
    | ok q =>
      obtain ⟨l, p⟩ := q
      rw [h1] at h
      simp only at h
      cases h2 : recordAt b p with
      | error x => rw [h2] at h; simp at h
      | ok q2 =>
        obtain ⟨x, p'⟩ := q2
        rw [h2] at h
        simp only at h
        by_cases c : misB l x part = true
        · rw [if_pos c] at h; simp at h
        · rw [if_neg c] at h
          simp only [Except.ok.injEq, Prod.mk.injEq] at h
          obtain ⟨rfl, rfl⟩ := h
          have hll := rc_len b part k m l p h1
          by_cases cj : j < m
          · obtain ⟨p1, p2, g1, g2, g3, g4⟩ := ih l p h1 j (by omega)
            refine ⟨p1, p2, ?_, ?_, ?_, ?_⟩
            · rw [List.take_append_of_le_length (by omega)]; exact g1
            · rw [List.getElem_append_left (by omega)]; exact g2
            · rw [List.take_append_of_le_length (by omega)]; exact g3
            · rw [List.take_append_of_le_length (by omega), List.getElem_append_left (by omega)]; exact g4
          · have ej : j = m := by rw [List.length_append] at hl; simp at hl hj; omega
            subst ej
            have et : (l ++ [x]).take j = l := by rw [← hll]; simp
            have eg : (l ++ [x])[j] = x := by subst hll; simp
            refine ⟨p, p', by rw [et]; exact h1, by rw [eg]; exact h2, ?_, by rw [et, eg]; simpa using c⟩
            rw [List.take_of_length_le (by omega)]; exact h0

theorem qs_len (b : ByteArray) (k : Nat) : ∀ m L P, qsTo b k m = .ok (L, P) → L.length = m := by
  intro m
  induction m with
  | zero => intro L P h; simp only [qsTo, Except.ok.injEq, Prod.mk.injEq] at h; rw [← h.1]; rfl
  | succ m ih =>
    intro L P h
    rw [qsTo] at h
    cases h1 : qsTo b k m with
    | error x => rw [h1] at h; simp at h
    | ok q =>
      obtain ⟨l, p⟩ := q
      rw [h1] at h
      simp only at h
      cases h2 : questionAt b p with
      | error x => rw [h2] at h; simp at h
      | ok q2 =>
        obtain ⟨x, p'⟩ := q2
        rw [h2] at h
        simp only [Except.ok.injEq, Prod.mk.injEq] at h
        rw [← h.1, List.length_append, ih l p h1]
        rfl

theorem qs_next (b : ByteArray) (k : Nat) : ∀ m L P, qsTo b k m = .ok (L, P) → ∀ j (hj : j < L.length), ∃ p p', qsTo b k j = .ok (L.take j, p) ∧ questionAt b p = .ok (L[j], p') ∧ qsTo b k (j + 1) = .ok (L.take (j + 1), p') := by
  intro m
  induction m with
  | zero => intro L P h j hj; have := qs_len b k 0 L P h; omega
  | succ m ih =>
    intro L P h j hj
    have hl := qs_len b k (m + 1) L P h
    have h0 := h
    rw [qsTo] at h
    cases h1 : qsTo b k m with
    | error x => rw [h1] at h; simp at h
    | ok q =>
      obtain ⟨l, p⟩ := q
      rw [h1] at h
      simp only at h
      cases h2 : questionAt b p with
      | error x => rw [h2] at h; simp at h
      | ok q2 =>
        obtain ⟨x, p'⟩ := q2
        rw [h2] at h
        simp only [Except.ok.injEq, Prod.mk.injEq] at h
        obtain ⟨rfl, rfl⟩ := h
        have hll := qs_len b k m l p h1
        by_cases cj : j < m
        · obtain ⟨p1, p2, g1, g2, g3⟩ := ih l p h1 j (by omega)
          refine ⟨p1, p2, ?_, ?_, ?_⟩
          · rw [List.take_append_of_le_length (by omega)]; exact g1
          · rw [List.getElem_append_left (by omega)]; exact g2
          · rw [List.take_append_of_le_length (by omega)]; exact g3
        · have ej : j = m := by rw [List.length_append] at hl; simp at hl hj; omega
          subst ej
          have et : (l ++ [x]).take j = l := by rw [← hll]; simp
          have eg : (l ++ [x])[j] = x := by subst hll; simp
          refine ⟨p, p', by rw [et]; exact h1, by rw [eg]; exact h2, ?_⟩
          rw [List.take_of_length_le (by omega)]; exact h0

theorem rec_open (b : ByteArray) (p : Nat) (x : Rc) (p' : Nat) (h : recordAt b p = .ok (x, p')) :
    ∃ u, nameAt b p = .ok (x.name, u) ∧ p + u + 10 + num b (p + u + 8) 2 ≤ b.size ∧ p' = p + u + 10 + num b (p + u + 8) 2 ∧ x.ty = num b (p + u) 2 ∧ x.cl = num b (p + u + 2) 2 ∧ x.ttl = num b (p + u + 4) 4 ∧
      dataP b (p + u + 10) (num b (p + u + 8) 2) (num b (p + u) 2) = some x.data := by
  unfold recordAt at h
  cases h1 : nameAt b p with
  | error e => rw [h1] at h; simp at h
  | ok q =>
    obtain ⟨s, u⟩ := q
    rw [h1] at h
    simp only at h
    by_cases c : b.size < p + u + 10
    · rw [if_pos c] at h; simp at h
    · rw [if_neg c] at h
      by_cases c' : b.size < p + u + 10 + num b (p + u + 8) 2
      · rw [if_pos c'] at h; simp at h
      · rw [if_neg c'] at h
        cases h2 : dataP b (p + u + 10) (num b (p + u + 8) 2) (num b (p + u) 2) with
        | none => rw [h2] at h; simp at h
        | some d =>
          rw [h2] at h
          simp only [Except.ok.injEq, Prod.mk.injEq] at h
          obtain ⟨rfl, rfl⟩ := h
          exact ⟨u, rfl, by omega, rfl, rfl, rfl, rfl, h2⟩

theorem que_open (b : ByteArray) (p : Nat) (x : Qs) (p' : Nat) (h : questionAt b p = .ok (x, p')) :
    ∃ u, nameAt b p = .ok (x.name, u) ∧ p + u + 4 ≤ b.size ∧ p' = p + u + 4 ∧ x.ty = num b (p + u) 2 ∧ x.cl = num b (p + u + 2) 2 := by
  unfold questionAt at h
  cases h1 : nameAt b p with
  | error e => rw [h1] at h; simp at h
  | ok q =>
    obtain ⟨s, u⟩ := q
    rw [h1] at h
    simp only at h
    by_cases c : b.size < p + u + 4
    · rw [if_pos c] at h; simp at h
    · rw [if_neg c] at h
      simp only [Except.ok.injEq, Prod.mk.injEq] at h
      obtain ⟨rfl, rfl⟩ := h
      exact ⟨u, rfl, by omega, rfl, rfl, rfl⟩

set_option maxRecDepth 100000 in
set_option maxHeartbeats 4000000 in
theorem recorded_any (b : ByteArray) (L : List Rc) (part k P m : Nat) (a : Option Addr) (c N : Nat) (v : Int) (w : World) (hb : b.size ≤ 65535) (hv : v = k) (hk : k ≤ b.size) (h : rcTo b part k m = .ok (L, P)) (hrow : RowAt w N a (rcI (L.map Rc.int))) (hN : N ≤ w.heap.size) (hlen : L.length ≤ 65535) :
    Calls Try.prog 58 #[.string b, .int .i64 v, .slice a L.length c] w fun e w' => e = .returned (.int .i64 (P : Nat)) ∧ Below w.heap.size w w' := by
  subst hv
  have hll := rc_len b part k m L P h
  subst hll
  have hnext := rc_next b part k L.length L P h
  have HN := hide hnext
  have H := hide h
  have HRow := hide hrow
  clear hnext h hrow
  go_enter Try.func58, Try.ntmps58
  go_wp2_with fail
  go_loopw [1, 7] (fun va vi w' => ∃ (j p : Nat), j ≤ L.length ∧ p ≤ b.size ∧ va = .int .i64 p ∧ vi = .int .i64 j ∧ Hid (rcTo b part k j = .ok (L.take j, p)) ∧ Hid (Below w.heap.size w w')) (fun _ vi _ => L.length - (intOf vi).toNat)
  case atStart => exact ⟨0, k, Nat.zero_le _, hk, rfl, rfl, hide rfl, hide (Below.refl _ _)⟩
  case round =>
    obtain ⟨j, p, hj, hp, rfl, rfl, HJ, HB⟩ := hrel
    by_cases cj : j < L.length
    · obtain ⟨p1, p2, g1, g2, g3, _⟩ := unhide HN j cj
      rw [unhide HJ] at g1
      simp only [Except.ok.injEq, Prod.mk.injEq, true_and] at g1
      subst g1
      obtain ⟨u, q1, q2, q3, q4, q5, q6, q7⟩ := rec_open b p L[j] p2 g2
      have hr := row_r ((unhide HRow).below ((unhide HB).mono hN)) j (by simpa using cj)
      have ej : (L.map Rc.int)[j]'(by simpa using cj) = L[j].int := by simp
      rw [ej] at hr
      obtain ⟨bb, o, rfl, hbb, x0, x1, x2, x3, x4⟩ := hr
      have y0 : L[j].int.name = L[j].name := rfl
      have y1 : L[j].int.ty = ((num b (p + u) 2 : Nat) : Int) := by rw [← q4]; rfl
      have y2 : L[j].int.cl = ((num b (p + u + 2) 2 : Nat) : Int) := by rw [← q5]; rfl
      have y3 : L[j].int.ttl = 65536 * ((num b (p + u + 4) 2 : Nat) : Int) + ((num b (p + u + 6) 2 : Nat) : Int) := by
        show ((L[j].ttl : Nat) : Int) = _
        rw [q6, num4, show p + u + 4 + 2 = p + u + 6 by omega]
        omega
      have y4 : L[j].int.data = L[j].data := rfl
      rw [y0] at x0
      rw [y1] at x1
      rw [y2] at x2
      rw [y3] at x3
      rw [y4] at x4
      have z0 := num_lt2 b (p + u)
      have z1 := num_lt2 b (p + u + 2)
      have z2 := num_lt2 b (p + u + 4)
      have z3 := num_lt2 b (p + u + 6)
      have z4 := num_lt2 b (p + u + 8)
      have k0 := fun W => spelled_any b L[j].name p u p W hb rfl q1
      have k1 := fun W (v : Int) hv => two_any b (p + u) v W hb hv (by omega)
      have k2 := fun W (v : Int) hv => two_any b (p + u + 2) v W hb hv (by omega)
      have k3 := fun W (v : Int) hv => two_any b (p + u + 4) v W hb hv (by omega)
      have k4 := fun W (v : Int) hv => two_any b (p + u + 6) v W hb hv (by omega)
      have k5 := fun W (v : Int) hv => two_any b (p + u + 8) v W hb hv (by omega)
      have k6 := fun W (v : Int) hv => filled_any b L[j].data (p + u + 10) (num b (p + u + 8) 2) (num b (p + u) 2) v W hb hv (by omega) q7
      have hlt := cell_ltK x0
      have K0 := hide k0
      have K1 := hide k1
      have K2 := hide k2
      have K3 := hide k3
      have K4 := hide k4
      have K5 := hide k5
      have K6 := hide k6
      have G3 := hide g3
      clear k0 k1 k2 k3 k4 k5 k6 g3 g2 q1 q4 q5 q6 q7 y0 y1 y2 y3 y4 ej HN HRow
      generalize L[j].name = nm at *
      generalize L[j].data = dt at *
      generalize num b (p + u) 2 = n0 at *
      generalize num b (p + u + 2) 2 = n1 at *
      generalize num b (p + u + 4) 2 = n2 at *
      generalize num b (p + u + 6) 2 = n3 at *
      generalize num b (p + u + 8) 2 = n4 at *
      have hA := (unhide HB).alloc (unhide HB).size (.cells #[.string nm, .int .i64 n0, .int .i64 n1, .int .i64 (65536 * (n2 : Int) + (n3 : Int)), .string dt] 86)
      have HA := hide hA
      clear hA HB
      go_wp2_with fail
      refine (unhide K0 _).mono ?_
      rintro e w1 ⟨rfl, m0, rfl⟩
      have g0 : decide ((u : Int) < 0) = false := by simp
      go_wp2_with fail
      refine (unhide K1 _ _ (by omega)).mono ?_
      rintro e w1 ⟨rfl, m1, rfl⟩
      go_wp2_with fail
      refine (unhide K2 _ _ (by omega)).mono ?_
      rintro e w1 ⟨rfl, m2, rfl⟩
      go_wp2_with fail
      refine (unhide K3 _ _ (by omega)).mono ?_
      rintro e w1 ⟨rfl, m3, rfl⟩
      go_wp2_with fail
      refine (unhide K4 _ _ (by omega)).mono ?_
      rintro e w1 ⟨rfl, m4, rfl⟩
      go_wp2_with fail
      refine (unhide K5 _ _ (by omega)).mono ?_
      rintro e w1 ⟨rfl, m5, rfl⟩
      have g1 : decide ((n4 : Int) < 0) = false := by simp
      have g2 : ((n0 : Int) != (n0 : Int)) = false := by simp
      have g3 : ((n1 : Int) != (n1 : Int)) = false := by simp
      have g4 : (65536 * (n2 : Int) + (n3 : Int) != 65536 * (n2 : Int) + (n3 : Int)) = false := by simp
      have g5 : decide ((b.size : Int) < (p : Int) + (u : Int) + 10 + (n4 : Int)) = false := by simp; omega
      go_wp2_with fail
      refine (unhide K6 _ _ (by omega)).mono ?_
      rintro e w1 ⟨rfl, m6, rfl⟩
      go_wp2_with fail
      exact ⟨⟨j + 1, p2, by omega, by omega, by go_num, by go_num, G3, hide (below_drewK (unhide HA) _)⟩, by simp [intOf]; omega⟩
    · have ej : j = L.length := by omega
      subst ej
      have e1 := unhide HJ
      rw [List.take_length, unhide H] at e1
      simp only [Except.ok.injEq, Prod.mk.injEq, true_and] at e1
      subst e1
      go_wp2_with fail
      go_ret
      exact ⟨rfl, unhide HB⟩

theorem parse_open (b : ByteArray) (m : Msg) (h : parseP b = .ok m) : b.size ≤ 65535 ∧ 12 ≤ b.size ∧ m.id = num b 0 2 ∧ m.flags = num b 2 2 ∧ num b 4 2 = m.q.length ∧ num b 6 2 = m.a.length ∧ num b 8 2 = m.u.length ∧ num b 10 2 = m.x.length ∧
    ∃ p1 p2 p3, qsTo b 12 m.q.length = .ok (m.q, p1) ∧ rcTo b 0 p1 m.a.length = .ok (m.a, p2) ∧ rcTo b 1 p2 m.u.length = .ok (m.u, p3) ∧ rcTo b 2 p3 m.x.length = .ok (m.x, b.size) := by
  unfold parseP at h
  by_cases c1 : 65535 < b.size
  · rw [if_pos c1] at h; simp at h
  rw [if_neg c1] at h
  by_cases c2 : b.size < 12
  · rw [if_pos c2] at h; simp at h
  rw [if_neg c2] at h
  cases h1 : qsTo b 12 (num b 4 2) with
  | error e => rw [h1] at h; simp at h
  | ok r1 =>
    obtain ⟨q, p1⟩ := r1
    rw [h1] at h
    simp only at h
    cases h2 : rcTo b 0 p1 (num b 6 2) with
    | error e => rw [h2] at h; simp at h
    | ok r2 =>
      obtain ⟨a, p2⟩ := r2
      rw [h2] at h
      simp only at h
      cases h3 : rcTo b 1 p2 (num b 8 2) with
      | error e => rw [h3] at h; simp at h
      | ok r3 =>
        obtain ⟨u, p3⟩ := r3
        rw [h3] at h
        simp only at h
        cases h4 : rcTo b 2 p3 (num b 10 2) with
        | error e => rw [h4] at h; simp at h
        | ok r4 =>
          obtain ⟨x, p4⟩ := r4
          rw [h4] at h
          simp only at h
          by_cases c3 : p4 ≠ b.size
          · rw [if_pos c3] at h; simp at h
          · rw [if_neg c3] at h
            simp only [Except.ok.injEq] at h
            subst h
            have l1 := qs_len _ _ _ _ _ h1
            have l2 := rc_len _ _ _ _ _ _ h2
            have l3 := rc_len _ _ _ _ _ _ h3
            have l4 := rc_len _ _ _ _ _ _ h4
            have e4 : p4 = b.size := by omega
            subst e4
            exact ⟨by omega, by omega, rfl, rfl, l1.symm, l2.symm, l3.symm, l4.symm, p1, p2, p3, by rw [l1]; exact h1, by rw [l2]; exact h2, by rw [l3]; exact h3, by rw [l4]; exact h4⟩

theorem rc_place (b : ByteArray) (part k : Nat) (hk : k ≤ b.size) : ∀ m L P, rcTo b part k m = .ok (L, P) → P ≤ b.size := by
  intro m
  cases m with
  | zero => intro L P h; simp only [rcTo, Except.ok.injEq, Prod.mk.injEq] at h; omega
  | succ m =>
    intro L P h
    have hl := rc_len b part k (m + 1) L P h
    obtain ⟨p, p', h1, h2, h3, _⟩ := rc_next b part k (m + 1) L P h m (by omega)
    rw [List.take_of_length_le (by omega), h] at h3
    simp only [Except.ok.injEq, Prod.mk.injEq, true_and] at h3
    have := (recordAt_bounds b p _ p' h2).2.1
    omega
theorem qs_place (b : ByteArray) (k : Nat) (hk : k ≤ b.size) : ∀ m L P, qsTo b k m = .ok (L, P) → P ≤ b.size := by
  intro m
  cases m with
  | zero => intro L P h; simp only [qsTo, Except.ok.injEq, Prod.mk.injEq] at h; omega
  | succ m =>
    intro L P h
    have hl := qs_len b k (m + 1) L P h
    obtain ⟨p, p', h1, h2, h3⟩ := qs_next b k (m + 1) L P h m (by omega)
    rw [List.take_of_length_le (by omega), h] at h3
    simp only [Except.ok.injEq, Prod.mk.injEq, true_and] at h3
    have := (questionAt_bounds b p _ p' h2).2.1
    omega

end Go.Proofs.Ytdhobdmhnocbgaa
