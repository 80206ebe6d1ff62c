/-
  Walks over zonekeep: messages that are the same; how many bytes a message takes with whole names.
-/
import Derived.Test.YtdhobdmhnocbgaaQSerZ
import Derived.Test.YtdhobdmhnocbgaaQParseX
import Derived.Test.YtdhobdmhnocbgaaQRnd
import Derived.Deep.QuietTactic
import Derived.BigQuiet
namespace Go.Proofs.Ytdhobdmhnocbgaa
open Go.RowKit Zr

theorem below_drewK {B : Nat} {a w : World} (h : Below B a w) (n : Nat) : Below B a (w.drewN n) := ⟨h.os, h.tape, h.output, h.size, h.block⟩

/-- No list is longer than a count can tell. -/
def Short (m : MI) : Prop := m.q.length ≤ 65535 ∧ m.a.length ≤ 65535 ∧ m.u.length ≤ 65535 ∧ m.x.length ≤ 65535

theorem msgOk_short {m : MI} (h : msgOk m) : Short m := ⟨h.2.2.1.1, h.2.2.2.1.1, h.2.2.2.2.1.1, h.2.2.2.2.2.1⟩

set_option maxRecDepth 100000 in
set_option maxHeartbeats 1000000 in
theorem sameQuestionsK (l : List QI) (a a' : Option Addr) (c c' N N' : Nat) (w : World) (h1 : RowAt w N a (qcI l)) (h2 : RowAt w N' a' (qcI l)) (hn : l.length ≤ 140737488355328) :
    Calls Try.prog 54 #[.slice a l.length c, .slice a' l.length c'] w fun e w' => e = .returned (.bool true) ∧ ∃ n, w' = w.drewN n := by
  have H1 := hide h1
  have H2 := hide h2
  clear h1 h2
  have hnn : ((l.length : Int) != (l.length : Int)) = false := by simp
  go_enter Try.func54, Try.ntmps54
  go_wp2_with fail
  go_loopw [5] (fun i w' => ∃ j m : Nat, j ≤ l.length ∧ i = .int .i64 j ∧ w' = w.drewN m) (fun i _ => l.length - (intOf i).toNat)
  case atStart => exact ⟨0, 0, Nat.zero_le _, rfl, rfl⟩
  case round =>
    obtain ⟨j, m, hj, rfl, rfl⟩ := hrel
    by_cases cj : j < l.length
    · obtain ⟨b, o, rfl, _, x0, x1, x2⟩ := row_q (unhide H1) j cj
      obtain ⟨b', o', rfl, _, y0, y1, y2⟩ := row_q (unhide H2) j cj
      generalize l[j].name = nm at *
      generalize l[j].ty = ty at *
      generalize l[j].cl = cl at *
      go_wp2_with fail
      go_quiet (fail)
      go_wp2_with fail
      exact ⟨⟨j + 1, m + nq, by omega, by go_num, rfl⟩, by simp [intOf]; omega⟩
    · go_wp2_with fail
      go_ret
      exact ⟨rfl, m, rfl⟩

set_option maxRecDepth 100000 in
set_option maxHeartbeats 1000000 in
theorem sameRecordsK (l : List RI) (a a' : Option Addr) (c c' N N' : Nat) (w : World) (h1 : RowAt w N a (rcI l)) (h2 : RowAt w N' a' (rcI l)) (hn : l.length ≤ 140737488355328) :
    Calls Try.prog 55 #[.slice a l.length c, .slice a' l.length c'] w fun e w' => e = .returned (.bool true) ∧ ∃ n, w' = w.drewN n := by
  have H1 := hide h1
  have H2 := hide h2
  clear h1 h2
  have hnn : ((l.length : Int) != (l.length : Int)) = false := by simp
  go_enter Try.func55, Try.ntmps55
  go_wp2_with fail
  go_loopw [5] (fun i w' => ∃ j m : Nat, j ≤ l.length ∧ i = .int .i64 j ∧ w' = w.drewN m) (fun i _ => l.length - (intOf i).toNat)
  case atStart => exact ⟨0, 0, Nat.zero_le _, rfl, rfl⟩
  case round =>
    obtain ⟨j, m, hj, rfl, rfl⟩ := hrel
    by_cases cj : j < l.length
    · obtain ⟨b, o, rfl, _, x0, x1, x2, x3, x4⟩ := row_r (unhide H1) j cj
      obtain ⟨b', o', rfl, _, y0, y1, y2, y3, y4⟩ := row_r (unhide H2) j cj
      generalize l[j].name = nm at *
      generalize l[j].ty = ty at *
      generalize l[j].cl = cl at *
      generalize l[j].ttl = tl at *
      generalize l[j].data = dt at *
      go_wp2_with fail
      go_quiet (fail)
      go_wp2_with fail
      exact ⟨⟨j + 1, m + nq, by omega, by go_num, rfl⟩, by simp [intOf]; omega⟩
    · go_wp2_with fail
      go_ret
      exact ⟨rfl, m, rfl⟩

set_option maxRecDepth 100000 in
set_option maxHeartbeats 1000000 in
theorem sameMessageK (m : MI) (v v' : Value) (N N' : Nat) (w : World) (h1 : MsgAt w N v m) (h2 : MsgAt w N' v' m) (hl : Short m) (hN : N ≤ w.heap.size) (hN' : N' ≤ w.heap.size) :
    Calls Try.prog 20 #[v, v'] w fun e w' => e = .returned (.bool true) ∧ Below w.heap.size w w' := by
  obtain ⟨a1, c1, a2, c2, a3, c3, a4, c4, rfl, o1, o2, o3, o4, _⟩ := h1
  obtain ⟨b1, d1, b2, d2, b3, d3, b4, d4, rfl, r1, r2, r3, r4, _⟩ := h2
  obtain ⟨s1, s2, s3, s4⟩ := hl
  obtain ⟨id, fl, q, a, u, x⟩ := m
  simp only at *
  have hb : ∀ A B n, Below w.heap.size w (((w.alloc A).alloc B).drewN n) := fun A B n => below_drewK (((Below.refl _ _).alloc (Nat.le_refl _) _).alloc (by simp) _) n
  have key1 := fun W (h : ∃ A B n, W = ((w.alloc A).alloc B).drewN n) => sameQuestionsK q a1 b1 c1 d1 N N' W (by obtain ⟨A, B, n, rfl⟩ := h; exact o1.below ((hb A B n).mono hN)) (by obtain ⟨A, B, n, rfl⟩ := h; exact r1.below ((hb A B n).mono hN')) (by omega)
  have key2 := fun W (h : ∃ A B n, W = ((w.alloc A).alloc B).drewN n) => sameRecordsK a a2 b2 c2 d2 N N' W (by obtain ⟨A, B, n, rfl⟩ := h; exact o2.below ((hb A B n).mono hN)) (by obtain ⟨A, B, n, rfl⟩ := h; exact r2.below ((hb A B n).mono hN')) (by omega)
  have key3 := fun W (h : ∃ A B n, W = ((w.alloc A).alloc B).drewN n) => sameRecordsK u a3 b3 c3 d3 N N' W (by obtain ⟨A, B, n, rfl⟩ := h; exact o3.below ((hb A B n).mono hN)) (by obtain ⟨A, B, n, rfl⟩ := h; exact r3.below ((hb A B n).mono hN')) (by omega)
  have key4 := fun W (h : ∃ A B n, W = ((w.alloc A).alloc B).drewN n) => sameRecordsK x a4 b4 c4 d4 N N' W (by obtain ⟨A, B, n, rfl⟩ := h; exact o4.below ((hb A B n).mono hN)) (by obtain ⟨A, B, n, rfl⟩ := h; exact r4.below ((hb A B n).mono hN')) (by omega)
  have K1 := hide key1
  have K2 := hide key2
  have K3 := hide key3
  have K4 := hide key4
  have HB := hide hb
  clear key1 key2 key3 key4 o1 o2 o3 o4 r1 r2 r3 r4 hb
  have hii : (id == id) = true := by simp
  have hff : (fl == fl) = true := by simp
  go_enter Try.func20, Try.ntmps20
  go_wp2_with fail
  refine (unhide K1 _ ⟨_, _, 0, rfl⟩).mono ?_
  rintro e w1 ⟨rfl, n1, rfl⟩
  go_wp2_with fail
  refine (unhide K2 _ ⟨_, _, n1, rfl⟩).mono ?_
  rintro e w1 ⟨rfl, n2, rfl⟩
  go_wp2_with fail
  refine (unhide K3 _ ⟨_, _, n1 + n2, rfl⟩).mono ?_
  rintro e w1 ⟨rfl, n3, rfl⟩
  go_wp2_with fail
  refine (unhide K4 _ ⟨_, _, n1 + n2 + n3, rfl⟩).mono ?_
  rintro e w1 ⟨rfl, n4, rfl⟩
  go_wp2_with fail
  go_ret
  exact ⟨rfl, unhide HB _ _ _⟩


theorem whlR_succ (l : List RI) (j : Nat) (h : j < l.length) : whlR (l.take (j + 1)) = whlR (l.take j) + l[j].name.size + 10 + l[j].data.size := by
  unfold whlR
  rw [List.take_succ_eq_append_getElem h, List.foldl_append]
  rfl

theorem whlQ_succ (l : List QI) (j : Nat) (h : j < l.length) : whlQ (l.take (j + 1)) = whlQ (l.take j) + l[j].name.size + 4 := by
  unfold whlQ
  rw [List.take_succ_eq_append_getElem h, List.foldl_append]
  rfl

theorem whlR_le (l : List RI) (hz : ∀ i (h : i < l.length), l[i].name.size ≤ 255 ∧ l[i].data.size ≤ 65535) : ∀ j, j ≤ l.length → whlR (l.take j) ≤ j * 65800 := by
  intro j
  induction j with
  | zero => intro _; exact Nat.le_refl _
  | succ j ih =>
    intro h
    have h1 := ih (by omega)
    have h2 := hz j (by omega)
    rw [whlR_succ l j (by omega)]
    omega

theorem whlQ_le (l : List QI) (hz : ∀ i (h : i < l.length), l[i].name.size ≤ 255) : ∀ j, j ≤ l.length → whlQ (l.take j) ≤ 12 + j * 300 := by
  intro j
  induction j with
  | zero => intro _; exact Nat.le_refl _
  | succ j ih =>
    intro h
    have h1 := ih (by omega)
    have h2 := hz j (by omega)
    rw [whlQ_succ l j (by omega)]
    omega

set_option maxRecDepth 100000 in
set_option maxHeartbeats 1000000 in
theorem wholly_any (l : List RI) (a : Option Addr) (c N : Nat) (w : World) (h1 : RowAt w N a (rcI l)) (hn : l.length ≤ 65535) (hz : ∀ i (h : i < l.length), l[i].name.size ≤ 255 ∧ l[i].data.size ≤ 65535) :
    Calls Try.prog 93 #[.slice a l.length c] w fun e w' => e = .returned (.int .i64 (whlR l : Nat)) ∧ ∃ n, w' = w.drewN n := by
  have H1 := hide h1
  have HZ := hide hz
  have HL := hide (whlR_le l hz)
  clear h1 hz
  go_enter Try.func93, Try.ntmps93
  go_wp2_with fail
  go_loopw [3, 4] (fun v i w' => ∃ j k m : Nat, j ≤ l.length ∧ i = .int .i64 j ∧ v = .int .i64 k ∧ Hid (k = whlR (l.take j)) ∧ w' = w.drewN m) (fun _ i _ => l.length - (intOf i).toNat)
  case atStart => exact ⟨0, 0, 0, Nat.zero_le _, rfl, rfl, hide rfl, rfl⟩
  case round =>
    obtain ⟨j, k, m, hj, rfl, rfl, hk, rfl⟩ := hrel
    have hkl := unhide HL j hj
    rw [← unhide hk] at hkl
    by_cases cj : j < l.length
    · obtain ⟨b, o, rfl, _, x0, x1, x2, x3, x4⟩ := row_r (unhide H1) j cj
      have hs := unhide HZ j cj
      have hsu := whlR_succ l j cj
      rw [← unhide hk] at hsu
      have HSU := hide hsu
      clear hsu hk
      generalize l[j].name = nm at *
      generalize l[j].ty = ty at *
      generalize l[j].cl = cl at *
      generalize l[j].ttl = tl at *
      generalize l[j].data = dt at *
      have hs1 := hs.1
      have hs2 := hs.2
      clear hs
      go_wp2_with fail
      go_quiet (fail)
      go_wp2_with fail
      refine ⟨⟨j + 1, k + nm.size + 10 + dt.size, m + nq, by omega, by go_num, by go_num, hide (unhide HSU).symm, rfl⟩, by simp [intOf]; omega⟩
    · have ej : j = l.length := by omega
      subst ej
      rw [List.take_length] at hk
      have ek := unhide hk
      subst ek
      go_wp2_with fail
      go_ret
      exact ⟨rfl, m, rfl⟩

theorem quiet_more {P : Program} {f : FuncId} {args : Array Value} {w : World} {m x : Nat} {v : Value}
    (h : Calls P f args (w.drewN (m + x)) fun e w' => e = .returned v ∧ ∃ n, w' = (w.drewN (m + x)).drewN n) : Calls P f args (w.drewN (m + x)) fun e w'' => e = .returned v ∧ ∃ n, w'' = w.drewN (m + n) :=
  h.mono fun _ _ ⟨he, n, hn⟩ => ⟨he, x + n, by rw [hn, World.drewN_drewN, Nat.add_assoc]⟩

theorem MsgAt.sizes {m : MI} (h : msgOk m) : (∀ i (h : i < m.q.length), m.q[i].name.size ≤ 255) ∧ (∀ l, l = m.a ∨ l = m.u ∨ l = m.x → ∀ i (h : i < l.length), l[i].name.size ≤ 255 ∧ l[i].data.size ≤ 65535) := by
  obtain ⟨_, _, mq, ma, mu, mx⟩ := h
  refine ⟨fun i hi => ?_, ?_⟩
  · exact (queOk_nat (mq.2 i hi)).1
  · rintro l (rfl | rfl | rfl) i hi
    · have := recOk_nat (ma.2 i hi).1; exact ⟨this.1, this.2.1⟩
    · have := recOk_nat (mu.2 i hi).1; exact ⟨this.1, this.2.1⟩
    · have := recOk_nat (mx.2 i hi).1; exact ⟨this.1, this.2.1⟩

set_option maxRecDepth 100000 in
set_option maxHeartbeats 1000000 in
theorem size_any (m : MI) (v : Value) (N : Nat) (w : World) (hm : MsgAt w N v m) (hN : N ≤ w.heap.size) (hok : msgOk m) :
    Calls Try.prog 52 #[v] w fun e w' => e = .returned (.int .i64 (whl m : Nat)) ∧ Below w.heap.size w w' := by
  have hsh := msgOk_short hok
  obtain ⟨sq, sr⟩ := MsgAt.sizes hok
  obtain ⟨a1, c1, a2, c2, a3, c3, a4, c4, rfl, o1, o2, o3, o4, _⟩ := hm
  obtain ⟨s1, s2, s3, s4⟩ := hsh
  obtain ⟨id, fl, q, a, u, x⟩ := m
  simp only at *
  have l2 := whlR_le a (sr a (.inl rfl)) a.length (Nat.le_refl _)
  have l3 := whlR_le u (sr u (.inr (.inl rfl))) u.length (Nat.le_refl _)
  have l4 := whlR_le x (sr x (.inr (.inr rfl))) x.length (Nat.le_refl _)
  rw [List.take_length] at l2 l3 l4
  have hb : ∀ A n, Below w.heap.size w ((w.alloc A).drewN n) := fun A n => below_drewK ((Below.refl _ _).alloc (Nat.le_refl _) _) n
  have key2 := fun W (h : ∃ A n, W = (w.alloc A).drewN n) => wholly_any a a2 c2 N W (by obtain ⟨A, n, rfl⟩ := h; exact o2.below ((hb A n).mono hN)) s2 (sr a (.inl rfl))
  have key3 := fun W (h : ∃ A n, W = (w.alloc A).drewN n) => wholly_any u a3 c3 N W (by obtain ⟨A, n, rfl⟩ := h; exact o3.below ((hb A n).mono hN)) s3 (sr u (.inr (.inl rfl)))
  have key4 := fun W (h : ∃ A n, W = (w.alloc A).drewN n) => wholly_any x a4 c4 N W (by obtain ⟨A, n, rfl⟩ := h; exact o4.below ((hb A n).mono hN)) s4 (sr x (.inr (.inr rfl)))
  have hrow := fun A n => o1.below ((hb A n).mono hN)
  have K2 := hide key2
  have K3 := hide key3
  have K4 := hide key4
  have HB := hide hb
  have HR := hide hrow
  have HZ := hide sq
  have HL := hide (whlQ_le q sq)
  clear key2 key3 key4 o1 o2 o3 o4 hb sr sq hok hrow
  have e : whl ⟨id, fl, q, a, u, x⟩ = whlQ q + whlR a + whlR u + whlR x := rfl
  rw [e]
  clear e
  generalize whlR a = na at *
  generalize whlR u = nu at *
  generalize whlR x = nx at *
  go_enter Try.func52, Try.ntmps52
  go_wp2_with fail
  go_loopw [3, 4] (fun v i w' => ∃ j k n : Nat, j ≤ q.length ∧ i = .int .i64 j ∧ v = .int .i64 k ∧ Hid (k = whlQ (q.take j)) ∧ w' = (w.alloc (.cells #[.int .i64 id, .int .i64 fl, .slice a1 q.length c1, .slice a2 a.length c2, .slice a3 u.length c3, .slice a4 x.length c4] 25)).drewN n) (fun _ i _ => q.length - (intOf i).toNat)
  case atStart => exact ⟨0, 12, 0, Nat.zero_le _, rfl, rfl, hide rfl, rfl⟩
  case round =>
    obtain ⟨j, k, m, hj, rfl, rfl, hk, rfl⟩ := hrel
    have hkl := unhide HL j hj
    rw [← unhide hk] at hkl
    by_cases cj : j < q.length
    · have hrr := unhide HR (.cells #[.int .i64 id, .int .i64 fl, .slice a1 q.length c1, .slice a2 a.length c2, .slice a3 u.length c3, .slice a4 x.length c4] 25) m
      obtain ⟨b, o, rfl, _, x0, x1, x2⟩ := row_q hrr j cj
      clear hrr
      have hs := unhide HZ j cj
      have hsu := whlQ_succ q j cj
      rw [← unhide hk] at hsu
      have HSU := hide hsu
      clear hsu hk
      generalize q[j].name = nm at *
      go_wp2_with fail
      refine ⟨⟨j + 1, k + nm.size + 4, m, by omega, by go_num, by go_num, hide (unhide HSU).symm, rfl⟩, by simp [intOf]; omega⟩
    · have ej : j = q.length := by omega
      subst ej
      rw [List.take_length] at hk
      have ek := unhide hk
      subst ek
      go_wp2_with fail
      go_quiet (first
        | (go_at_call_of 93 (Value.slice a2 a.length c2); exact quiet_more (unhide K2 _ ⟨_, _, rfl⟩))
        | (go_at_call_of 93 (Value.slice a3 u.length c3); exact quiet_more (unhide K3 _ ⟨_, _, rfl⟩))
        | (go_at_call_of 93 (Value.slice a4 x.length c4); exact quiet_more (unhide K4 _ ⟨_, _, rfl⟩)))
      go_wp2_with fail
      go_ret
      refine ⟨?_, below_drewK (unhide HB _ _) _⟩
      go_num

end Go.Proofs.Ytdhobdmhnocbgaa
