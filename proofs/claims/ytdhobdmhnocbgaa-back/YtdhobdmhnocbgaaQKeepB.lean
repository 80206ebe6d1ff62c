/-
  Walks over zonekeep: a message that is well made is written and read back.
-/
import Derived.Test.YtdhobdmhnocbgaaQKeepA
namespace Go.Proofs.Ytdhobdmhnocbgaa
open Go.RowKit Zr

theorem own_row {w : World} {N : Nat} {e : TypeId} {size : Nat} {a : Option Addr} {n c : Nat} {xs : List Value} (h : w.ownsRow N e size (.slice a n c) n xs) : RowAt w w.heap.size a xs ∧ n ≤ c := by
  obtain ⟨h0, h⟩ := h
  rcases h with ⟨h1, h2⟩ | ⟨g, cap, cur, h1, h2, h3, h4, h5, h6, h7⟩
  · subst h2
    refine ⟨fun hx => absurd (List.length_eq_zero_iff.1 (by rw [h0, Nat.zero_mul])) hx, Nat.zero_le _⟩
  · simp only [Value.slice.injEq, true_and] at h1
    obtain ⟨rfl, rfl⟩ := h1
    refine ⟨fun hx => ⟨g, 0, rfl, blk_lt h3, fun j u hu => ?_⟩, h4⟩
    rw [Nat.zero_add, cell_of_blk h3, ← hu, ← h7]
    have hj := (List.getElem?_eq_some_iff.1 hu).1
    rw [List.getElem?_take, if_pos (by omega)]
    simp

theorem qcells_int (l : List Qs) : qcells l = qcI (l.map Qs.int) := by
  induction l with
  | nil => rfl
  | cons x l ih =>
    show _ :: _ :: _ :: qcells l = _ :: _ :: _ :: qcI (l.map Qs.int)
    rw [ih]
    rfl
theorem rcells_int (l : List Rc) : rcells l = rcI (l.map Rc.int) := by
  induction l with
  | nil => rfl
  | cons x l ih =>
    show _ :: _ :: _ :: _ :: _ :: rcells l = _ :: _ :: _ :: _ :: _ :: rcI (l.map Rc.int)
    rw [ih]
    rfl

theorem msgOk_sized {m : MI} (h : msgOk m) : QSized m.q ∧ RSized m.a ∧ RSized m.u ∧ RSized m.x := by
  obtain ⟨sq, sr⟩ := MsgAt.sizes h
  refine ⟨fun i hi => ?_, fun i hi => ?_, fun i hi => ?_, fun i hi => ?_⟩
  · have := sq i hi; omega
  · have := sr m.a (.inl rfl) i hi; omega
  · have := sr m.u (.inr (.inl rfl)) i hi; omega
  · have := sr m.x (.inr (.inr rfl)) i hi; omega

/-- A message that came out, read where it lies. -/
theorem msgIs_at {w : World} {N : Nat} {v : Value} {m : Msg} (h : MsgIs w N v m) (hok : msgOk m.int) : MsgAt w w.heap.size v m.int := by
  obtain ⟨z1, z2, z3, z4⟩ := msgOk_sized hok
  obtain ⟨a1, c1, a2, c2, a3, c3, a4, c4, rfl, o1, o2, o3, o4, _⟩ := h
  rw [qcells_int] at o1
  rw [rcells_int] at o2 o3 o4
  obtain ⟨r1, k1⟩ := own_row o1
  obtain ⟨r2, k2⟩ := own_row o2
  obtain ⟨r3, k3⟩ := own_row o3
  obtain ⟨r4, k4⟩ := own_row o4
  refine ⟨a1, c1, a2, c2, a3, c3, a4, c4, ?_, r1, r2, r3, r4, z1, z2, z3, z4, ?_, ?_, ?_, ?_⟩
  · simp only [Msg.int, List.length_map]
  all_goals simpa [Msg.int] using by assumption

theorem map_same {α : Type} {f : α → α} (l : List α) (h : ∀ x, x ∈ l → f x = x) : l.map f = l := by
  induction l with
  | nil => rfl
  | cons x l ih => rw [List.map_cons, h x (by simp), ih (fun y hy => h y (List.mem_cons_of_mem _ hy))]

theorem int_of_nat {m : MI} (h : msgOk m) : m.nat.int = m := by
  obtain ⟨m1, m2, mq, ma, mu, mx⟩ := h
  obtain ⟨id, fl, q, a, u, x⟩ := m
  simp only at m1 m2 mq ma mu mx
  have hq : ∀ y, y ∈ q → y.nat.int = y := fun y hy => by
    obtain ⟨_, ⟨k1, _⟩, k2, _⟩ := ques_mem mq y hy
    obtain ⟨n, t, c⟩ := y
    simp only at k1 k2
    simp only [QI.nat, Qs.int, Int.toNat_of_nonneg k1, Int.toNat_of_nonneg k2]
  have hr : ∀ l part, partOk l part → ∀ y, y ∈ l → y.nat.int = y := fun l part hl y hy => by
    obtain ⟨_, ⟨k1, _⟩, ⟨k2, _⟩, ⟨k3, _⟩, _⟩ := part_mem hl y hy
    obtain ⟨n, t, c, tt, d⟩ := y
    simp only at k1 k2 k3
    simp only [RI.nat, Rc.int, Int.toNat_of_nonneg k1, Int.toNat_of_nonneg k2, Int.toNat_of_nonneg k3]
  show (⟨(id.toNat : Int), (fl.toNat : Int), (q.map QI.nat).map Qs.int, (a.map RI.nat).map Rc.int, (u.map RI.nat).map Rc.int, (x.map RI.nat).map Rc.int⟩ : MI) = _
  rw [Int.toNat_of_nonneg m1.1, Int.toNat_of_nonneg m2.1, List.map_map, List.map_map, List.map_map, List.map_map]
  rw [map_same (f := Qs.int ∘ QI.nat) q hq, map_same (f := Rc.int ∘ RI.nat) a (hr a 0 ma), map_same (f := Rc.int ∘ RI.nat) u (hr u 1 mu), map_same (f := Rc.int ∘ RI.nat) x (hr x 2 mx)]

set_option maxRecDepth 100000 in
set_option maxHeartbeats 2000000 in
theorem back_any (m : MI) (v : Value) (w : World) (hm : MsgAt w w.heap.size v m) (hok : msgOk m) :
    Calls Try.prog 17 #[v] w fun e w' => e = .returned (.bool true) ∧ Below w.heap.size w w' := by
  obtain ⟨N, hN⟩ : ∃ N, w.heap.size = N := ⟨_, rfl⟩
  rw [hN] at hm ⊢
  have k1 := fun W (hb : Below N w W) => zoneSerialize_any m v W ((hm.below hb).mono (by have := hb.size; omega))
  have k2 := fun W (hb : Below N w W) => size_any m v N W (hm.below hb) (by have := hb.size; omega) hok
  have k3 := fun W (hb : Below N w W) v' N' (h' : MsgAt W N' v' m) (hl : N' ≤ W.heap.size) => sameMessageK m v' v N' N W h' (hm.below hb) (msgOk_short hok) hl (by have := hb.size; omega)
  have hle := writ_le m hok
  have hbk := parse_writ m hok
  have hin := int_of_nat hok
  obtain ⟨a1, c1, a2, c2, a3, c3, a4, c4, rfl, _⟩ := hm
  have K1 := hide k1
  have K2 := hide k2
  have K3 := hide k3
  have HBK := hide hbk
  have HIN := hide hin
  have HOK := hide hok
  clear k1 k2 k3 hbk hin hok
  obtain ⟨O, hO⟩ : ∃ O, O = Obj.cells #[.int .i64 m.id, .int .i64 m.flags, .slice a1 m.q.length c1, .slice a2 m.a.length c2, .slice a3 m.u.length c3, .slice a4 m.x.length c4] 25 := ⟨_, rfl⟩
  have hB0 : Below N w (w.alloc O) := (Below.refl _ _).alloc (by omega) _
  have hX := heap_alloc_new w O
  rw [hN] at hX
  rw [hO] at hB0 hX
  clear hO O
  go_enter Try.func17, Try.ntmps17
  have HX := hide hX
  clear hX
  go_wp2_with fail
  refine (unhide K1 _ hB0).mono ?_
  rintro e w1 ⟨⟨s, x, rfl, hser⟩, hb1⟩
  have hB1 := hB0.trans (hb1.mono (by have := hB0.size; omega))
  have HX1 := hide ((hb1.block N (blk_lt (unhide HX))).trans (unhide HX))
  clear hb1 HX
  obtain ⟨⟨b0, b1, b2, b3, b4, b5⟩, _⟩ := cells6 (unhide HX1)
  go_wp2_with fail
  refine (unhide K2 _ hB1).mono ?_
  rintro e w2 ⟨rfl, hb2⟩
  have hB2 := hB1.trans (hb2.mono (by have := hB1.size; omega))
  have HX2 := hide ((hb2.block N (blk_lt (unhide HX1))).trans (unhide HX1))
  clear hb2 HX1 b0 b1 b2 b3 b4 b5
  generalize whl m = n at *
  generalize hW : (writ m.nat).1 = B at *
  rcases hser with ⟨h1, _⟩ | ⟨_, h2, rfl, rfl⟩ | ⟨_, h2, rfl, rfl⟩
  · exact absurd (unhide HOK) h1
  · rw [hW] at h2
    have hn : (65535 : Int) < (n : Int) := by omega
    have hd : decide ((65535 : Int) < (n : Int)) = true := by simpa using hn
    go_wp2_with fail
    go_ret
    exact ⟨rfl, hB2⟩
  · rw [hW] at h2
    subst hW
    have hz : (writ m.nat).1.size ≤ 65535 := by omega
    have hps := zoneParse_any (writ m.nat).1 w2 (by unfold maxLen; omega)
    rw [unhide HBK hz] at hps
    have HPS := hide hps
    clear hps HBK
    generalize (writ m.nat).1 = B at *
    go_wp2_with fail
    refine (unhide HPS).mono ?_
    rintro e w3 ⟨v', rfl, hmi, hb3⟩
    have hmi' : MsgIs w3 w2.heap.size v' m.nat := hmi
    have hma := msgIs_at hmi' (by rw [unhide HIN]; exact unhide HOK)
    rw [unhide HIN] at hma
    have hB3 := hB2.trans (hb3.mono (by have := hB2.size; omega))
    have HX3 := hide ((hb3.block N (blk_lt (unhide HX2))).trans (unhide HX2))
    clear hmi hmi' hb3 HX2 HPS HIN HOK
    obtain ⟨a1', c1', a2', c2', a3', c3', a4', c4', rfl, _⟩ := id hma
    obtain ⟨O, hO⟩ : ∃ O, O = Obj.cells #[.int .i64 m.id, .int .i64 m.flags, .slice a1' m.q.length c1', .slice a2' m.a.length c2', .slice a3' m.u.length c3', .slice a4' m.x.length c4'] 25 := ⟨_, rfl⟩
    have hal := (Below.refl w3.heap.size w3).alloc (Nat.le_refl _) O
    have hma4 := hma.below hal
    have hY := heap_alloc_new w3 O
    have hX4 := (hal.block N (blk_lt (unhide HX3))).trans (unhide HX3)
    have hB4 := hB3.trans (hal.mono (by have := hB3.size; omega))
    have hs4 := hal.size
    rw [hO] at hY hX4 hB4 hma4 hs4
    have HM4 := hide hma4
    obtain ⟨⟨b0, b1, b2, b3, b4, b5⟩, _⟩ := cells6 hX4
    clear hX4 hY hma4 hma hal hO O
    go_wp2_with fail
    refine (unhide K3 _ hB4 _ _ (unhide HM4) hs4).mono ?_
    rintro e w5 ⟨rfl, hb5⟩
    have hB5 := hB4.trans (hb5.mono (by have := hB4.size; omega))
    clear b0 b1 b2 b3 b4 b5 HX3 HM4 K1 K2 K3
    have hd2 : decide ((B.size : Int) ≤ 65535) = true := by simp; omega
    go_wp2_with fail
    go_ret
    exact ⟨rfl, hB5⟩

end Go.Proofs.Ytdhobdmhnocbgaa
