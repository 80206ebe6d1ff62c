/-
  Walks: Serialize.
-/
import Derived.Test.YtdhobdmhnocbgaaQSerY
namespace Go.Proofs.Ytdhobdmhnocbgaa
open Go.RowKit Zr

theorem wr_new (w : World) (N : Nat) (hN : N ≤ w.heap.size) : WrS (w.alloc (.cells #[.slice none 0 0, .slice none 0 0] 117)) N w.heap.size (⟨#[]⟩, []) :=
  ⟨_, none, 0, _, none, 0, heap_alloc_new _ _, hN, rfl, rfl, World.ownsRow_nil _ _ _ _, World.ownsRow_nil _ _ _ _⟩

theorem MsgAt.mono {w : World} {N M : Nat} {v : Value} {m : MI} (h : MsgAt w N v m) (hb : N ≤ M) : MsgAt w M v m := by
  obtain ⟨a1, c1, a2, c2, a3, c3, a4, c4, e, r1, r2, r3, r4, z⟩ := h
  exact ⟨a1, c1, a2, c2, a3, c3, a4, c4, e, r1.mono hb, r2.mono hb, r3.mono hb, r4.mono hb, z⟩

/-- What Serialize hands back. -/
def SerPost (m : MI) (e : Ending) : Prop := ∃ s x, e = .returned (.tuple #[.string s, .int .i64 x]) ∧ SerIs m s x

set_option maxRecDepth 100000 in
set_option maxHeartbeats 2000000 in
theorem wireSerialize_any (m : MI) (v : Value) (w : World) (hm : MsgAt w w.heap.size v m) :
    Calls Try.prog 43 #[v] w fun e w' => SerPost m e ∧ Below w.heap.size w w' := by
  obtain ⟨N, hN⟩ : ∃ N, w.heap.size = N := ⟨_, rfl⟩
  rw [hN] at hm ⊢
  have HM := hide hm
  obtain ⟨a1, c1, a2, c2, a3, c3, a4, c4, rfl, _⟩ := hm
  obtain ⟨v, hv⟩ : ∃ v, Value.agg #[.int .i64 m.id, .int .i64 m.flags, .slice a1 m.q.length c1, .slice a2 m.a.length c2, .slice a3 m.u.length c3, .slice a4 m.x.length c4] = v := ⟨_, rfl⟩
  have HM' : Hid (MsgAt w N v m) := by show MsgAt _ _ _ _; rw [← hv]; exact unhide HM
  clear HM
  generalize hB0 : (w.alloc (.cells #[.int .i64 m.id, .int .i64 m.flags, .slice a1 m.q.length c1, .slice a2 m.a.length c2, .slice a3 m.u.length c3, .slice a4 m.x.length c4] 25)) = W0
  have hW0 : W0.heap[N]? = some (.cells #[.int .i64 m.id, .int .i64 m.flags, .slice a1 m.q.length c1, .slice a2 m.a.length c2, .slice a3 m.u.length c3, .slice a4 m.x.length c4] 25 (0, 0)) := by rw [← hB0, ← hN]; exact heap_alloc_new _ _
  have hB1 : Below N w W0 := by rw [← hB0, ← hN]; exact (Below.refl _ _).alloc (Nat.le_refl _) _
  have hs0 : W0.heap.size = N + 1 := by rw [← hB0]; simp; omega
  have key1 := fun W (hb : Below N w W) (hs : N ≤ W.heap.size) => isMessage_any m v N W ((unhide HM').below hb) hs
  have key2 := fun W (hb : Below N w W) (hs : N ≤ W.heap.size) R (hr : WrS W N R (⟨#[]⟩, [])) (hok : msgOk m) => message_w N R m v W hr ((unhide HM').below hb) hok hs
  have K1 := hide key1
  have K2 := hide key2
  have HB0 := hide hB0
  have hcm : Hid (msgOk m → (writ m.nat).1.size ≤ 140000) := fun hok => by
    obtain ⟨o1, o2, o3, o4, o5, o6⟩ := hok
    have f0 := top_fine m.nat
    have fq := foldQ_fine f0.1 (by omega) m.q (ques_mem o3)
    have fa := foldR_fine fq.1 fq.2 m.a (part_mem o4)
    have fu := foldR_fine fa.1 fa.2 m.u (part_mem o5)
    have fx := foldR_fine fu.1 fu.2 m.x (part_mem o6)
    exact fx.2
  have HV := hide hv
  clear key1 key2 hB0 hv HM'
  have HS : Hid (∀ s x, SerIs m s x ↔ ((¬ msgOk m ∧ s = ⟨#[]⟩ ∧ x = 7) ∨ (msgOk m ∧ 65535 < (writ m.nat).1.size ∧ s = ⟨#[]⟩ ∧ x = 1) ∨ (msgOk m ∧ ¬ 65535 < (writ m.nat).1.size ∧ s = (writ m.nat).1 ∧ x = 0))) := fun s x => Iff.rfl
  unfold SerPost
  generalize SerIs m = S at *
  generalize msgOk m = ok at *
  generalize writ m.nat = st at *
  obtain ⟨id, fl, q, a, u, x⟩ := m
  simp only at *
  go_enter Try.func43, Try.ntmps43
  obtain ⟨⟨b0, b1, b2, b3, b4, b5⟩, y0, y1, y2, y3, y4, y5⟩ := cells6 hW0
  go_wp2_with fail
  rw [unhide HB0]
  rw [← unhide HV] at K1 K2
  clear HB0 HV
  refine (unhide K1 _ hB1 (by omega)).mono ?_
  rintro e w1 ⟨⟨b, rfl, hb⟩, hb1⟩
  have HOk := hide hb
  have hB2 := hB1.trans (hb1.mono (by omega))
  have X1 := hide ((hb1.block N (by omega)).trans hW0)
  have hsz := hB2.size
  clear hb hW0 b0 b1 b2 b3 b4 b5 y0 y1 y2 y3 y4 y5 K1
  obtain ⟨⟨b0, b1, b2, b3, b4, b5⟩, y0, y1, y2, y3, y4, y5⟩ := cells6 (unhide X1)
  cases b with
  | false =>
    go_wp2_with fail
    go_ret2
    exact ⟨⟨_, _, rfl, (unhide HS _ _).2 (.inl ⟨fun h => absurd ((unhide HOk).2 h) (by simp), rfl, rfl⟩)⟩, hB2⟩
  | true =>
    have hok : ok := (unhide HOk).1 (by simp)
    have hst := unhide hcm hok
    have hlt1 := blk_lt (unhide X1)
    obtain ⟨R, hR⟩ : ∃ R, w1.heap.size = R := ⟨_, rfl⟩
    have p1 : WrS (w1.alloc (.cells #[.slice none 0 0, .slice none 0 0] 117)) N R (⟨#[]⟩, []) := hR ▸ wr_new w1 N (by omega)
    have p2 : Below N w (w1.alloc (.cells #[.slice none 0 0, .slice none 0 0] 117)) := hB2.trans (((Below.refl _ _).alloc (Nat.le_refl _) _).mono (by omega))
    have p3 : N ≤ (w1.alloc (.cells #[.slice none 0 0, .slice none 0 0] 117)).heap.size := by simp; omega
    obtain ⟨⟨n0, n1, n2, n3, n4, n5⟩, m0, m1, m2, m3, m4, m5⟩ := cells6 ((Below.heap_alloc w1 (.cells #[.slice none 0 0, .slice none 0 0] 117) N hlt1).trans (unhide X1))
    have P1 := hide p1
    have P2 := hide p2
    have P3 := hide p3
    clear p1 p2 p3 b0 b1 b2 b3 b4 b5 y0 y1 y2 y3 y4 y5
    go_wp2_with fail
    refine (unhide K2 _ (unhide P2) (unhide P3) R (unhide P1) hok).mono ?_
    rintro e w2 ⟨rfl, h2, g2⟩
    have hB3 := (unhide P2).trans (g2.below (unhide P3))
    have H2 := hide h2
    clear h2 g2 n0 n1 n2 n3 n4 n5 m0 m1 m2 m3 m4 m5
    obtain ⟨B, K⟩ := st
    simp only at *
    by_cases cf : 65535 < B.size
    · have hd : Hid (decide (65535 < B.size) = true) := decide_eq_true cf
      go_wp2_with fail
      refine (full_st N R (B, K) _ (unhide H2) (by show B.size ≤ _; omega) true hd).mono ?_
      rintro e w' ⟨rfl, rfl⟩
      go_wp2_with fail
      go_ret2
      exact ⟨⟨_, _, rfl, (unhide HS _ _).2 (.inr (.inl ⟨hok, cf, rfl, rfl⟩))⟩, hB3⟩
    · have hd : Hid (decide (65535 < B.size) = false) := decide_eq_false cf
      go_wp2_with fail
      refine (full_st N R (B, K) _ (unhide H2) (by show B.size ≤ _; omega) false hd).mono ?_
      rintro e w' ⟨rfl, rfl⟩
      obtain ⟨vb, ab, cb, vk, ak, ck, hR, hN, rfl, rfl, o1, o2⟩ := unhide H2
      obtain ⟨d0, d1, z0, z1⟩ := wr_cells hR
      have O1 := hide o1
      clear hR o1 o2
      simp only at *
      go_wp2_with fail
      rw [run_bytes_row _ 105 9 5 Try.underlying105 Try.underlying5 Try.underlying9 N _ B (unhide O1)]
      go_wp2_with fail
      go_ret2
      exact ⟨⟨_, _, rfl, (unhide HS _ _).2 (.inr (.inr ⟨hok, cf, rfl, rfl⟩))⟩, hB3⟩

theorem zoneSerialize_any (m : MI) (v : Value) (w : World) (hm : MsgAt w w.heap.size v m) :
    Calls Try.prog 13 #[v] w fun e w' => SerPost m e ∧ Below w.heap.size w w' := by
  have key := fun W (hb : Below w.heap.size w W) => wireSerialize_any m v W ((hm.below hb).mono hb.size)
  obtain ⟨a1, c1, a2, c2, a3, c3, a4, c4, rfl, _⟩ := hm
  have Key := hide key
  clear key
  have hB1 : ∀ o, Below w.heap.size w (w.alloc o) := fun o => (Below.refl _ _).alloc (Nat.le_refl _) _
  have HB1 := hide hB1
  clear hB1
  go_enter Try.func13, Try.ntmps13
  go_wp2_with fail
  refine (unhide Key _ (unhide HB1 _)).mono ?_
  rintro e w1 ⟨⟨s, x, rfl, hs⟩, hb1⟩
  have HS := hide hs
  clear hs
  go_wp2_with fail
  go_ret2
  exact ⟨⟨_, _, rfl, unhide HS⟩, (unhide HB1 _).trans (hb1.mono (by simp))⟩

end Go.Proofs.Ytdhobdmhnocbgaa
