/-
  Walks over the law: lists that are the same.
-/
import Derived.Test.YtdhobdmhnocbgaaLawB
import Derived.Deep.QuietTactic
import Derived.BigQuiet
namespace Go.Proofs.Ytdhobdmhnocbgaa
open Go.RowKit Zr

set_option maxRecDepth 100000 in
set_option maxHeartbeats 1000000 in
theorem sameQuestions_true (l : List Qs) (a a' : Option Addr) (c c' N N' : Nat) (w : World) (h1 : w.ownsRow N 74 3 (.slice a l.length c) l.length (qcells l)) (h2 : w.ownsRow N' 74 3 (.slice a' l.length c') l.length (qcells l)) (hn : l.length ≤ 65535) :
    Calls Try.prog 78 #[.slice a l.length c, .slice a' l.length c'] w fun e w' => e = .returned (.bool true) ∧ ∃ n, w' = w.drewN n := by
  have H1 := hide h1
  have H2 := hide h2
  clear h1 h2
  have hnn : ((l.length : Int) != (l.length : Int)) = false := by simp
  go_enter Try.func78, Try.ntmps78
  go_wp2_with fail
  go_loopw [5] (fun i w' => ∃ j m : Nat, j ≤ l.length ∧ i = .int .i64 j ∧ w' = w.drewN m) (fun i _ => l.length - (intOf i).toNat)
  case atStart => exact ⟨0, 0, Nat.zero_le _, rfl, rfl⟩
  case round =>
    obtain ⟨j, m, hj, rfl, rfl⟩ := hrel
    by_cases cj : j < l.length
    · obtain ⟨g, rfl, _, _, hc⟩ := owns_form (unhide H1) (by omega)
      obtain ⟨g', rfl, _, _, hc'⟩ := owns_form (unhide H2) (by omega)
      obtain ⟨q0, q1, q2⟩ := qcells_at l j cj
      have x0 := owns_cell (unhide H1) _ _ q0
      have x1 := owns_cell (unhide H1) _ _ q1
      have x2 := owns_cell (unhide H1) _ _ q2
      have y0 := owns_cell (unhide H2) _ _ q0
      have y1 := owns_cell (unhide H2) _ _ q1
      have y2 := owns_cell (unhide H2) _ _ q2
      clear q0 q1 q2
      generalize l[j].name = nm at *
      generalize l[j].ty = ty at *
      generalize l[j].cl = cl at *
      go_wp2_with fail
      go_quiet (fail)
      go_wp2_with fail
      exact ⟨⟨j + 1, m + nq, by omega, by go_num, rfl⟩, by simp [intOf]; omega⟩
    · go_wp2_with fail
      go_ret
      exact ⟨rfl, m, rfl⟩

set_option maxRecDepth 100000 in
set_option maxHeartbeats 1000000 in
theorem sameRecords_true (l : List Rc) (a a' : Option Addr) (c c' N N' : Nat) (w : World) (h1 : w.ownsRow N 86 5 (.slice a l.length c) l.length (rcells l)) (h2 : w.ownsRow N' 86 5 (.slice a' l.length c') l.length (rcells l)) (hn : l.length ≤ 65535) :
    Calls Try.prog 65 #[.slice a l.length c, .slice a' l.length c'] w fun e w' => e = .returned (.bool true) ∧ ∃ n, w' = w.drewN n := by
  have H1 := hide h1
  have H2 := hide h2
  clear h1 h2
  have hnn : ((l.length : Int) != (l.length : Int)) = false := by simp
  go_enter Try.func65, Try.ntmps65
  go_wp2_with fail
  go_loopw [5] (fun i w' => ∃ j m : Nat, j ≤ l.length ∧ i = .int .i64 j ∧ w' = w.drewN m) (fun i _ => l.length - (intOf i).toNat)
  case atStart => exact ⟨0, 0, Nat.zero_le _, rfl, rfl⟩
  case round =>
    obtain ⟨j, m, hj, rfl, rfl⟩ := hrel
    by_cases cj : j < l.length
    · obtain ⟨g, rfl, _, _, hc⟩ := owns_form (unhide H1) (by omega)
      obtain ⟨g', rfl, _, _, hc'⟩ := owns_form (unhide H2) (by omega)
      obtain ⟨q0, q1, q2, q3, q4⟩ := rcells_at l j cj
      have x0 := owns_cell (unhide H1) _ _ q0
      have x1 := owns_cell (unhide H1) _ _ q1
      have x2 := owns_cell (unhide H1) _ _ q2
      have x3 := owns_cell (unhide H1) _ _ q3
      have x4 := owns_cell (unhide H1) _ _ q4
      have y0 := owns_cell (unhide H2) _ _ q0
      have y1 := owns_cell (unhide H2) _ _ q1
      have y2 := owns_cell (unhide H2) _ _ q2
      have y3 := owns_cell (unhide H2) _ _ q3
      have y4 := owns_cell (unhide H2) _ _ q4
      clear q0 q1 q2 q3 q4
      generalize l[j].name = nm at *
      generalize l[j].ty = ty at *
      generalize l[j].cl = cl at *
      generalize l[j].ttl = tl at *
      generalize l[j].data = dt at *
      go_wp2_with fail
      go_quiet (fail)
      go_wp2_with fail
      exact ⟨⟨j + 1, m + nq, by omega, by go_num, rfl⟩, by simp [intOf]; omega⟩
    · go_wp2_with fail
      go_ret
      exact ⟨rfl, m, rfl⟩

/-- No list is longer than a count can say. -/
def Small (m : Msg) : Prop := m.q.length ≤ 65535 ∧ m.a.length ≤ 65535 ∧ m.u.length ≤ 65535 ∧ m.x.length ≤ 65535

theorem below_drewN' {B : Nat} {a w : World} (h : Below B a w) (n : Nat) : Below B a (w.drewN n) := ⟨h.os, h.tape, h.output, h.size, h.block⟩

theorem owns_drewN {w : World} {N : Nat} {e : TypeId} {size : Nat} {v : Value} {n : Nat} {xs : List Value} (h : w.ownsRow N e size v n xs) (k : Nat) : (w.drewN k).ownsRow N e size v n xs := h

set_option maxRecDepth 100000 in
set_option maxHeartbeats 1000000 in
theorem sameMessage_true (m : Msg) (v v' : Value) (N N' : Nat) (w : World) (h1 : MsgIs w N v m) (h2 : MsgIs w N' v' m) (hs : Small m) :
    Calls Try.prog 39 #[v, v'] w fun e w' => e = .returned (.bool true) ∧ Below w.heap.size w w' := by
  obtain ⟨a1, c1, a2, c2, a3, c3, a4, c4, rfl, o1, o2, o3, o4, _⟩ := h1
  obtain ⟨b1, d1, b2, d2, b3, d3, b4, d4, rfl, r1, r2, r3, r4, _⟩ := h2
  obtain ⟨s1, s2, s3, s4⟩ := hs
  obtain ⟨id, fl, q, a, u, x⟩ := m
  simp only at *
  have key1 := fun W (h : ∃ A B n, W = ((w.alloc A).alloc B).drewN n) => sameQuestions_true q a1 b1 c1 d1 N N' W (by obtain ⟨A, B, n, rfl⟩ := h; exact owns_drewN ((o1.alloc _).alloc _) n) (by obtain ⟨A, B, n, rfl⟩ := h; exact owns_drewN ((r1.alloc _).alloc _) n) s1
  have key2 := fun W (h : ∃ A B n, W = ((w.alloc A).alloc B).drewN n) => sameRecords_true a a2 b2 c2 d2 N N' W (by obtain ⟨A, B, n, rfl⟩ := h; exact owns_drewN ((o2.alloc _).alloc _) n) (by obtain ⟨A, B, n, rfl⟩ := h; exact owns_drewN ((r2.alloc _).alloc _) n) s2
  have key3 := fun W (h : ∃ A B n, W = ((w.alloc A).alloc B).drewN n) => sameRecords_true u a3 b3 c3 d3 N N' W (by obtain ⟨A, B, n, rfl⟩ := h; exact owns_drewN ((o3.alloc _).alloc _) n) (by obtain ⟨A, B, n, rfl⟩ := h; exact owns_drewN ((r3.alloc _).alloc _) n) s3
  have key4 := fun W (h : ∃ A B n, W = ((w.alloc A).alloc B).drewN n) => sameRecords_true x a4 b4 c4 d4 N N' W (by obtain ⟨A, B, n, rfl⟩ := h; exact owns_drewN ((o4.alloc _).alloc _) n) (by obtain ⟨A, B, n, rfl⟩ := h; exact owns_drewN ((r4.alloc _).alloc _) n) s4
  have K1 := hide key1
  have K2 := hide key2
  have K3 := hide key3
  have K4 := hide key4
  clear key1 key2 key3 key4 o1 o2 o3 o4 r1 r2 r3 r4
  have hii : ((id : Int) == (id : Int)) = true := by simp
  have hff : ((fl : Int) == (fl : Int)) = true := by simp
  go_enter Try.func39, Try.ntmps39
  go_wp2_with fail
  refine (unhide K1 _ ⟨_, _, 0, rfl⟩).mono ?_
  rintro e w1 ⟨rfl, n1, rfl⟩
  go_wp2_with fail
  refine (unhide K2 _ ⟨_, _, n1, rfl⟩).mono ?_
  rintro e w1 ⟨rfl, n2, rfl⟩
  go_wp2_with fail
  refine (unhide K3 _ ⟨_, _, n1 + n2, rfl⟩).mono ?_
  rintro e w1 ⟨rfl, n3, rfl⟩
  go_wp2_with fail
  refine (unhide K4 _ ⟨_, _, n1 + n2 + n3, rfl⟩).mono ?_
  rintro e w1 ⟨rfl, n4, rfl⟩
  go_wp2_with fail
  go_ret
  exact ⟨rfl, below_drewN' (((Below.refl _ _).alloc (Nat.le_refl _) _).alloc (by simp) _) _⟩

end Go.Proofs.Ytdhobdmhnocbgaa
