/-
  Walks over the law: messages that are the same, lists read where they lie.
-/
import Derived.Test.YtgpgllbakfgocaaLawH
namespace Go.Proofs.Ytgpgllbakfgocaa
open Go.RowKit Zr

set_option maxRecDepth 100000 in
set_option maxHeartbeats 1000000 in
theorem sameQuestionsI_true (l : List QI) (a a' : Option Addr) (c c' N N' : Nat) (w : World) (h1 : RowAt w N a (qcI l)) (h2 : RowAt w N' a' (qcI l)) (hn : l.length ≤ 140737488355328) :
    Calls Try.prog 44 #[.slice a l.length c, .slice a' l.length c'] w fun e w' => e = .returned (.bool true) ∧ ∃ n, w' = w.drewN n := by
  have H1 := hide h1
  have H2 := hide h2
  clear h1 h2
  have hnn : ((l.length : Int) != (l.length : Int)) = false := by simp
  go_enter Try.func44, Try.ntmps44
  go_wp2_with fail
  go_loopw [5] (fun i w' => ∃ j m : Nat, j ≤ l.length ∧ i = .int .i64 j ∧ w' = w.drewN m) (fun i _ => l.length - (intOf i).toNat)
  case atStart => exact ⟨0, 0, Nat.zero_le _, rfl, rfl⟩
  case round =>
    obtain ⟨j, m, hj, rfl, rfl⟩ := hrel
    by_cases cj : j < l.length
    · obtain ⟨b, o, rfl, _, x0, x1, x2⟩ := row_q (unhide H1) j cj
      obtain ⟨b', o', rfl, _, y0, y1, y2⟩ := row_q (unhide H2) j cj
      generalize l[j].name = nm at *
      generalize l[j].ty = ty at *
      generalize l[j].cl = cl at *
      go_wp2_with fail
      go_quiet (fail)
      go_wp2_with fail
      exact ⟨⟨j + 1, m + nq, by omega, by go_num, rfl⟩, by simp [intOf]; omega⟩
    · go_wp2_with fail
      go_ret
      exact ⟨rfl, m, rfl⟩

set_option maxRecDepth 100000 in
set_option maxHeartbeats 1000000 in
theorem sameRecordsI_true (l : List RI) (a a' : Option Addr) (c c' N N' : Nat) (w : World) (h1 : RowAt w N a (rcI l)) (h2 : RowAt w N' a' (rcI l)) (hn : l.length ≤ 140737488355328) :
    Calls Try.prog 45 #[.slice a l.length c, .slice a' l.length c'] w fun e w' => e = .returned (.bool true) ∧ ∃ n, w' = w.drewN n := by
  have H1 := hide h1
  have H2 := hide h2
  clear h1 h2
  have hnn : ((l.length : Int) != (l.length : Int)) = false := by simp
  go_enter Try.func45, Try.ntmps45
  go_wp2_with fail
  go_loopw [5] (fun i w' => ∃ j m : Nat, j ≤ l.length ∧ i = .int .i64 j ∧ w' = w.drewN m) (fun i _ => l.length - (intOf i).toNat)
  case atStart => exact ⟨0, 0, Nat.zero_le _, rfl, rfl⟩
  case round =>
    obtain ⟨j, m, hj, rfl, rfl⟩ := hrel
    by_cases cj : j < l.length
    · obtain ⟨b, o, rfl, _, x0, x1, x2, x3, x4⟩ := row_r (unhide H1) j cj
      obtain ⟨b', o', rfl, _, y0, y1, y2, y3, y4⟩ := row_r (unhide H2) j cj
      generalize l[j].name = nm at *
      generalize l[j].ty = ty at *
      generalize l[j].cl = cl at *
      generalize l[j].ttl = tl at *
      generalize l[j].data = dt at *
      go_wp2_with fail
      go_quiet (fail)
      go_wp2_with fail
      exact ⟨⟨j + 1, m + nq, by omega, by go_num, rfl⟩, by simp [intOf]; omega⟩
    · go_wp2_with fail
      go_ret
      exact ⟨rfl, m, rfl⟩

/-- No list is longer than memory can hold. -/
def Lens (m : MI) : Prop := m.q.length * 32 ≤ 140737488351232 ∧ m.a.length * 56 ≤ 140737488351232 ∧ m.u.length * 56 ≤ 140737488351232 ∧ m.x.length * 56 ≤ 140737488351232

theorem drewN_same {w w' : World} {n : Nat} (h : w' = w.drewN n) {N : Nat} {a : Option Addr} {xs : List Value} (hr : RowAt w N a xs) : RowAt w' N a xs := by
  subst h
  exact hr.below (below_drewN' (Below.refl _ _) _)

set_option maxRecDepth 100000 in
set_option maxHeartbeats 1000000 in
theorem sameMessageI_true (m : MI) (v v' : Value) (N N' : Nat) (w : World) (h1 : MsgAt w N v m) (h2 : MsgAt w N' v' m) (hl : Lens m) (hN : N ≤ w.heap.size) (hN' : N' ≤ w.heap.size) :
    Calls Try.prog 19 #[v, v'] w fun e w' => e = .returned (.bool true) ∧ Below w.heap.size w w' := by
  obtain ⟨a1, c1, a2, c2, a3, c3, a4, c4, rfl, o1, o2, o3, o4, _⟩ := h1
  obtain ⟨b1, d1, b2, d2, b3, d3, b4, d4, rfl, r1, r2, r3, r4, _⟩ := h2
  obtain ⟨s1, s2, s3, s4⟩ := hl
  obtain ⟨id, fl, q, a, u, x⟩ := m
  simp only at *
  have hb : ∀ A B n, Below w.heap.size w (((w.alloc A).alloc B).drewN n) := fun A B n => below_drewN' (((Below.refl _ _).alloc (Nat.le_refl _) _).alloc (by simp) _) n
  have key1 := fun W (h : ∃ A B n, W = ((w.alloc A).alloc B).drewN n) => sameQuestionsI_true q a1 b1 c1 d1 N N' W (by obtain ⟨A, B, n, rfl⟩ := h; exact o1.below ((hb A B n).mono hN)) (by obtain ⟨A, B, n, rfl⟩ := h; exact r1.below ((hb A B n).mono hN')) (by omega)
  have key2 := fun W (h : ∃ A B n, W = ((w.alloc A).alloc B).drewN n) => sameRecordsI_true a a2 b2 c2 d2 N N' W (by obtain ⟨A, B, n, rfl⟩ := h; exact o2.below ((hb A B n).mono hN)) (by obtain ⟨A, B, n, rfl⟩ := h; exact r2.below ((hb A B n).mono hN')) (by omega)
  have key3 := fun W (h : ∃ A B n, W = ((w.alloc A).alloc B).drewN n) => sameRecordsI_true u a3 b3 c3 d3 N N' W (by obtain ⟨A, B, n, rfl⟩ := h; exact o3.below ((hb A B n).mono hN)) (by obtain ⟨A, B, n, rfl⟩ := h; exact r3.below ((hb A B n).mono hN')) (by omega)
  have key4 := fun W (h : ∃ A B n, W = ((w.alloc A).alloc B).drewN n) => sameRecordsI_true x a4 b4 c4 d4 N N' W (by obtain ⟨A, B, n, rfl⟩ := h; exact o4.below ((hb A B n).mono hN)) (by obtain ⟨A, B, n, rfl⟩ := h; exact r4.below ((hb A B n).mono hN')) (by omega)
  have K1 := hide key1
  have K2 := hide key2
  have K3 := hide key3
  have K4 := hide key4
  have HB := hide hb
  clear key1 key2 key3 key4 o1 o2 o3 o4 r1 r2 r3 r4 hb
  have hii : (id == id) = true := by simp
  have hff : (fl == fl) = true := by simp
  go_enter Try.func19, Try.ntmps19
  go_wp2_with fail
  refine (unhide K1 _ ⟨_, _, 0, rfl⟩).mono ?_
  rintro e w1 ⟨rfl, n1, rfl⟩
  go_wp2_with fail
  refine (unhide K2 _ ⟨_, _, n1, rfl⟩).mono ?_
  rintro e w1 ⟨rfl, n2, rfl⟩
  go_wp2_with fail
  refine (unhide K3 _ ⟨_, _, n1 + n2, rfl⟩).mono ?_
  rintro e w1 ⟨rfl, n3, rfl⟩
  go_wp2_with fail
  refine (unhide K4 _ ⟨_, _, n1 + n2 + n3, rfl⟩).mono ?_
  rintro e w1 ⟨rfl, n4, rfl⟩
  go_wp2_with fail
  go_ret
  exact ⟨rfl, unhide HB _ _ _⟩

/-- A list with room reads as the list. -/
theorem RoomR.row {w : World} {N : Nat} {v : Value} {l : List RI} (h : RoomR w N v l) : ∃ g, v = .slice (some ⟨g, 0, none⟩) l.length (l.length + 1) ∧ N ≤ g ∧ g < w.heap.size ∧ RowAt w w.heap.size (some ⟨g, 0, none⟩) (rcI l) := by
  obtain ⟨g, h1, h2, h3⟩ := h
  refine ⟨g, h1, h2, blk_lt h3, fun _ => ⟨g, 0, rfl, blk_lt h3, fun j u hu => ?_⟩⟩
  rw [Nat.zero_add, cell_of_blk h3]
  have hj := (List.getElem?_eq_some_iff.1 hu).1
  rw [List.getElem?_toArray, List.getElem?_append_left hj]
  exact hu
theorem RoomQ.row {w : World} {N : Nat} {v : Value} {l : List QI} (h : RoomQ w N v l) : ∃ g, v = .slice (some ⟨g, 0, none⟩) l.length (l.length + 1) ∧ N ≤ g ∧ g < w.heap.size ∧ RowAt w w.heap.size (some ⟨g, 0, none⟩) (qcI l) := by
  obtain ⟨g, h1, h2, h3⟩ := h
  refine ⟨g, h1, h2, blk_lt h3, fun _ => ⟨g, 0, rfl, blk_lt h3, fun j u hu => ?_⟩⟩
  rw [Nat.zero_add, cell_of_blk h3]
  have hj := (List.getElem?_eq_some_iff.1 hu).1
  rw [List.getElem?_toArray, List.getElem?_append_left hj]
  exact hu
theorem RoomR.below {w w' : World} {N : Nat} {v : Value} {l : List RI} (h : RoomR w N v l) (hb : Below w.heap.size w w') : RoomR w' N v l := by
  obtain ⟨g, h1, h2, h3⟩ := h
  exact ⟨g, h1, h2, (hb.block g (blk_lt h3)).trans h3⟩
theorem RoomQ.below {w w' : World} {N : Nat} {v : Value} {l : List QI} (h : RoomQ w N v l) (hb : Below w.heap.size w w') : RoomQ w' N v l := by
  obtain ⟨g, h1, h2, h3⟩ := h
  exact ⟨g, h1, h2, (hb.block g (blk_lt h3)).trans h3⟩

set_option maxRecDepth 100000 in
set_option maxHeartbeats 1000000 in
theorem wholeRecords_true (l : List RI) (v : Value) (a : Option Addr) (c N N' : Nat) (w : World) (h : RoomR w N v l) (h2 : RowAt w N' a (rcI l)) (hn : l.length * 56 ≤ 140737488351232) :
    Calls Try.prog 28 #[v, .slice a l.length c] w fun e w' => e = .returned (.bool true) ∧ Below w.heap.size w w' := by
  obtain ⟨g, rfl, _, hlt, hrow⟩ := h.row
  obtain ⟨g', e1, _, hg⟩ := h
  cases e1
  have Key := hide (sameRecordsI_true l (some ⟨g, 0, none⟩) a (l.length + 1) c w.heap.size N' w hrow h2 (by omega))
  have hc := (cell_of_blk hg (l.length * 5 + 1)).trans (at_mark _ _ _ _ _ (rcI_len l))
  clear hrow h2 hg
  have h77 : ((77 : Int) == 77) = true := rfl
  go_enter Try.func28, Try.ntmps28
  go_wp2_with fail
  refine (unhide Key).mono ?_
  rintro e w1 ⟨rfl, n1, rfl⟩
  have hcc : (w.drewN n1).cell? ⟨g, l.length * 5 + 1, none⟩ = some (.int .i64 77) := hc
  generalize l.length = n at *
  go_wp2_with fail
  go_ret
  exact ⟨rfl, below_drewN' (Below.refl _ _) _⟩

end Go.Proofs.Ytgpgllbakfgocaa
