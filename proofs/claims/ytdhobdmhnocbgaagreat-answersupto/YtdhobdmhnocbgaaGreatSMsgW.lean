/-
  Walks: the reader's method message.
-/
import Derived.Test.YtdhobdmhnocbgaaGreatSRecsW
namespace Go.Proofs.YtdhobdmhnocbgaaGreat
open Go.RowKit Zr

def stOfQ (r : Except Int (List Qs × Nat)) : Except Int Nat := match r with
  | .ok (_, p) => .ok p
  | .error x => .error x
def stOfR (r : Except Int (List Rc × Nat)) : Except Int Nat := match r with
  | .ok (_, p) => .ok p
  | .error x => .error x
def rcSt (b : ByteArray) (part : Nat) (st : Except Int Nat) (n : Nat) : Except Int (List Rc × Nat) :=
  match st with
  | .ok p => rcTo b part p n
  | .error x => .error x

def QRow (r : Except Int (List Qs × Nat)) (m : Nat) (cs : List Value) : Prop := ∀ l p, r = .ok (l, p) → m = l.length ∧ cs = qcells l
def RRow (r : Except Int (List Rc × Nat)) (m : Nat) (cs : List Value) : Prop := ∀ l p, r = .ok (l, p) → m = l.length ∧ cs = rcells l

theorem owns_shape {w : World} {N : Nat} {e : TypeId} {size : Nat} {v : Value} {n : Nat} {xs : List Value} (h : w.ownsRow N e size v n xs) : ∃ a c, v = .slice a n c := by
  rcases h.2 with ⟨rfl, rfl⟩ | ⟨g, cap, cur, rfl, _⟩
  · exact ⟨_, _, rfl⟩
  · exact ⟨_, _, rfl⟩
theorem owns_mono {w : World} {N N' : Nat} {e : TypeId} {size : Nat} {v : Value} {n : Nat} {xs : List Value} (h : w.ownsRow N e size v n xs) (hN : N' ≤ N) : w.ownsRow N' e size v n xs := by
  refine ⟨h.1, ?_⟩
  rcases h.2 with h2 | ⟨g, cap, cur, h1, h2, h3⟩
  · exact .inl h2
  · exact .inr ⟨g, cap, cur, h1, by omega, h3⟩

def Apart (u v : Value) : Prop := ∀ g, u.ownBlock = some g → v.ownBlock ≠ some g

theorem apart_of {w w' : World} {N M : Nat} {e e' : TypeId} {size size' : Nat} {u v : Value} {n n' : Nat} {xs xs' : List Value} (h : w.ownsRow N e size u n xs) (h' : w'.ownsRow M e' size' v n' xs') (hM : w.heap.size ≤ M) : Apart u v := by
  intro g hg hv
  have h1 := (h.lt g hg).2
  have h2 := (h'.lt g hv).1
  omega

theorem questions_st (R : Nat) (b : ByteArray) (st : Except Int Nat) (n : Nat) (w : World) (hb : b.size ≤ 65535) (hR : At w R b st) (hn : n ≤ 65535) :
    Calls Tryz.prog 110 #[.pointer (some ⟨R, 0, none⟩), .int .i64 n] w fun e w' => ∃ a m c cs, e = .returned (.slice a m c) ∧ w'.ownsRow w.heap.size 60 3 (.slice a m c) m cs ∧ At w' R b (stOfQ (qsSt b st n)) ∧ QRow (qsSt b st n) m cs ∧ w.grownBy w' (some R) := by
  cases st with
  | error x =>
    refine (questions_err R b x n w hR).mono ?_
    rintro e w' ⟨rfl, rfl⟩
    exact ⟨none, 0, 0, [], rfl, World.ownsRow_nil _ _ _ _, hR, fun l p h => by simp [qsSt] at h, grown_refl _ _⟩
  | ok k =>
    refine (questions_ok R b k n w hb hR hn).mono ?_
    rintro e w' ⟨hg, v, m, cs, rfl, hown, hpost⟩
    obtain ⟨a, c, rfl⟩ := owns_shape hown
    refine ⟨a, m, c, cs, rfl, hown, ?_, ?_, hg⟩
    · show At w' R b (stOfQ (qsTo b k n))
      cases h : qsTo b k n with
      | ok z => obtain ⟨l, p⟩ := z; rw [h] at hpost; exact hpost.1
      | error x => rw [h] at hpost; exact hpost
    · intro l p h
      have h' : qsTo b k n = .ok (l, p) := h
      rw [h'] at hpost
      exact hpost.2

theorem records_st (R : Nat) (b : ByteArray) (part : Nat) (ex : Bool) (st : Except Int Nat) (n : Nat) (w : World) (hb : b.size ≤ 65535) (hR : At w R b st) (hn : n ≤ 65535) (hex : ex = (part == 2)) :
    Calls Tryz.prog 111 #[.pointer (some ⟨R, 0, none⟩), .int .i64 n, .bool ex] w fun e w' => ∃ a m c cs, e = .returned (.slice a m c) ∧ w'.ownsRow w.heap.size 42 5 (.slice a m c) m cs ∧ At w' R b (stOfR (rcSt b part st n)) ∧ RRow (rcSt b part st n) m cs ∧ w.grownBy w' (some R) := by
  cases st with
  | error x =>
    refine (records_err R b x n ex w hR).mono ?_
    rintro e w' ⟨rfl, rfl⟩
    exact ⟨none, 0, 0, [], rfl, World.ownsRow_nil _ _ _ _, hR, fun l p h => by simp [rcSt] at h, grown_refl _ _⟩
  | ok k =>
    refine (records_ok R b part k n ex w hb hR hn hex).mono ?_
    rintro e w' ⟨hg, v, m, cs, rfl, hown, hpost⟩
    obtain ⟨a, c, rfl⟩ := owns_shape hown
    refine ⟨a, m, c, cs, rfl, hown, ?_, ?_, hg⟩
    · show At w' R b (stOfR (rcTo b part k n))
      cases h : rcTo b part k n with
      | ok z => obtain ⟨l, p⟩ := z; rw [h] at hpost; exact hpost.1
      | error x => rw [h] at hpost; exact hpost
    · intro l p h
      have h' : rcTo b part k n = .ok (l, p) := h
      rw [h'] at hpost
      exact hpost.2

theorem cells6 {w : World} {k : Nat} {x y z u v r : Value} {t : TypeId} (h : w.heap[k]? = some (.cells #[x, y, z, u, v, r] t (0, 0))) :
    (w.cell? ⟨k, 0, none⟩ = some x ∧ w.cell? ⟨k, 1, none⟩ = some y ∧ w.cell? ⟨k, 2, none⟩ = some z ∧ w.cell? ⟨k, 3, none⟩ = some u ∧ w.cell? ⟨k, 4, none⟩ = some v ∧ w.cell? ⟨k, 5, none⟩ = some r) ∧
    (w.frozen? ⟨k, 0, none⟩ = false ∧ w.frozen? ⟨k, 1, none⟩ = false ∧ w.frozen? ⟨k, 2, none⟩ = false ∧ w.frozen? ⟨k, 3, none⟩ = false ∧ w.frozen? ⟨k, 4, none⟩ = false ∧ w.frozen? ⟨k, 5, none⟩ = false) := by
  refine ⟨⟨?_, ?_, ?_, ?_, ?_, ?_⟩, frozen_of_blk h _, frozen_of_blk h _, frozen_of_blk h _, frozen_of_blk h _, frozen_of_blk h _, frozen_of_blk h _⟩ <;> (rw [cell_of_blk h]; rfl)
theorem store6 {w : World} {P : Nat} {x0 x1 x2 x3 x4 x5 : Value} {t : TypeId} (h : w.heap[P]? = some (.cells #[x0, x1, x2, x3, x4, x5] t (0, 0))) (v0 v1 v2 v3 v4 v5 : Value) :
    ((((((w.setCell ⟨P, 0, none⟩ v0).setCell ⟨P, 1, none⟩ v1).setCell ⟨P, 2, none⟩ v2).setCell ⟨P, 3, none⟩ v3).setCell ⟨P, 4, none⟩ v4).setCell ⟨P, 5, none⟩ v5).heap[P]? = some (.cells #[v0, v1, v2, v3, v4, v5] t (0, 0)) := by
  rw [blk_set (blk_set (blk_set (blk_set (blk_set (blk_set h _ _) _ _) _ _) _ _) _ _) _ _]; rfl

def msg0 : Obj := .cells #[.int .i64 0, .int .i64 0, .slice none 0 0, .slice none 0 0, .slice none 0 0, .slice none 0 0] 32 (0, 0)

/-- A row of the caller's that a call on the reader, and a store into another block, leave as it is. -/
theorem owns_call {w w1 : World} {N : Nat} {e : TypeId} {size : Nat} {v : Value} {n : Nat} {xs : List Value} {R P o : Nat} {u : Value} (h : w.ownsRow N e size v n xs) (hg : w.grownBy w1 (some R)) (hR : R < N) (hP : P < N) : (w1.setCell ⟨P, o, none⟩ u).ownsRow N e size v n xs :=
  owns_later (owns_later h hg hR) (grown_set _ _ _ _) hP

set_option maxHeartbeats 2000000 in
theorem message_walk (R : Nat) (b : ByteArray) (s0 s1 s2 s3 s4 s5 s6 : Except Int Nat) (id fl n1 n2 n3 n4 : Nat) (w : World) (hb : b.size ≤ 65535) (hR : At w R b s0)
    (e1 : Hid (numSt b s0 2 = (s1, id))) (e2 : Hid (numSt b s1 2 = (s2, fl))) (e3 : Hid (numSt b s2 2 = (s3, n1))) (e4 : Hid (numSt b s3 2 = (s4, n2))) (e5 : Hid (numSt b s4 2 = (s5, n3))) (e6 : Hid (numSt b s5 2 = (s6, n4)))
    (h1 : n1 ≤ 65535) (h2 : n2 ≤ 65535) (h3 : n3 ≤ 65535) (h4 : n4 ≤ 65535) (t1 t2 t3 t4 : Except Int Nat) (f1 : Hid (t1 = stOfQ (qsSt b s6 n1))) (f2 : Hid (t2 = stOfR (rcSt b 0 t1 n2))) (f3 : Hid (t3 = stOfR (rcSt b 1 t2 n3))) (f4 : Hid (t4 = stOfR (rcSt b 2 t3 n4))) :
    Calls Tryz.prog 75 #[.pointer (some ⟨R, 0, none⟩)] w fun e w' => w.grownBy w' (some R) ∧ At w' R b t4 ∧ ∃ a1 m1 c1 d1 a2 m2 c2 d2 a3 m3 c3 d3 a4 m4 c4 d4,
      e = .returned (.agg #[.int .i64 id, .int .i64 fl, .slice a1 m1 c1, .slice a2 m2 c2, .slice a3 m3 c3, .slice a4 m4 c4]) ∧
      w'.ownsRow w.heap.size 60 3 (.slice a1 m1 c1) m1 d1 ∧ QRow (qsSt b s6 n1) m1 d1 ∧
      w'.ownsRow w.heap.size 42 5 (.slice a2 m2 c2) m2 d2 ∧ RRow (rcSt b 0 t1 n2) m2 d2 ∧
      w'.ownsRow w.heap.size 42 5 (.slice a3 m3 c3) m3 d3 ∧ RRow (rcSt b 1 t2 n3) m3 d3 ∧
      w'.ownsRow w.heap.size 42 5 (.slice a4 m4 c4) m4 d4 ∧ RRow (rcSt b 2 t3 n4) m4 d4 ∧
      Apart (.slice a1 m1 c1) (.slice a2 m2 c2) ∧ Apart (.slice a1 m1 c1) (.slice a3 m3 c3) ∧ Apart (.slice a1 m1 c1) (.slice a4 m4 c4) ∧
      Apart (.slice a2 m2 c2) (.slice a3 m3 c3) ∧ Apart (.slice a2 m2 c2) (.slice a4 m4 c4) ∧ Apart (.slice a3 m3 c3) (.slice a4 m4 c4) := by
  have hRl := hR.lt
  generalize hN : w.heap.size = N
  rw [hN] at hRl
  go_enter Tryz.func75, Tryz.ntmps75
  go_wp2_with fail
  have hA := (two_new w msg0 msg0).1
  have hB := (two_new w msg0 msg0).2
  have hG := grown_alloc2 w msg0 msg0 (some R)
  have hR0 : At ((w.alloc msg0).alloc msg0) R b s0 := hR.keep ((Below.heap_alloc _ _ _ (by simp; omega)).trans (Below.heap_alloc _ _ _ (by omega)))
  rw [hN] at hA hB
  unfold msg0 at hA hB hG hR0
  generalize (w.alloc (.cells #[.int .i64 0, .int .i64 0, .slice none 0 0, .slice none 0 0, .slice none 0 0, .slice none 0 0] 32 (0, 0))).alloc (.cells #[.int .i64 0, .int .i64 0, .slice none 0 0, .slice none 0 0, .slice none 0 0, .slice none 0 0] 32 (0, 0)) = w0 at *
  have HA := hide hA
  have HB := hide hB
  clear hA hB hR
  refine (number_st R b s0 2 _ hb hR0 (by omega) (by omega)).mono ?_
  rw [show (2 : Int).toNat = 2 from rfl, unhide e1]
  rintro e w1 ⟨rfl, hAt1, hg1⟩
  obtain ⟨a1, b1, d1, l1, p1⟩ := after_call (o := 0) (.int .i64 id) hg1 hAt1 (unhide HA) (unhide HB) (by omega) (by omega) (by omega)
  obtain ⟨⟨x0, x1, x2, x3, x4, x5⟩, y0, y1, y2, y3, y4, y5⟩ := cells6 p1
  have hG1 := grown_own (grown_trans hG hg1) (N + 1) 0 (.int .i64 id) (by omega)
  clear p1 hR0 hG hg1 hAt1 HA HB e1
  go_wp2_with fail
  generalize w1.setCell ⟨N + 1, 0, none⟩ (.int .i64 id) = w2 at *
  clear x0 x1 x2 x3 x4 x5 y0 y1 y2 y3 y4 y5 l1 w1
  refine (number_st R b s1 2 _ hb a1 (by omega) (by omega)).mono ?_
  rw [show (2 : Int).toNat = 2 from rfl, unhide e2]
  rintro e w1 ⟨rfl, hAt1, hg1⟩
  obtain ⟨a2, b2, d2, l2, p2⟩ := after_call (o := 1) (.int .i64 fl) hg1 hAt1 b1 d1 (by omega) (by omega) (by omega)
  obtain ⟨⟨x0, x1, x2, x3, x4, x5⟩, y0, y1, y2, y3, y4, y5⟩ := cells6 p2
  have hG2 := grown_own (grown_trans hG1 hg1) (N + 1) 1 (.int .i64 fl) (by omega)
  clear p2 a1 b1 d1 hG1 hg1 hAt1 e2
  go_wp2_with fail
  generalize w1.setCell ⟨N + 1, 1, none⟩ (.int .i64 fl) = w3 at *
  clear x0 x1 x2 x3 x4 x5 y0 y1 y2 y3 y4 y5 l2 w1 w2
  refine (number_st R b s2 2 _ hb a2 (by omega) (by omega)).mono ?_
  rw [show (2 : Int).toNat = 2 from rfl, unhide e3]
  rintro e w4 ⟨rfl, a3, hg3⟩
  have b3 := grown_blk hg3 b2 (by omega)
  have d3 := grown_blk hg3 d2 (by omega)
  have hG3 := grown_trans hG2 hg3
  clear a2 b2 d2 hG2 hg3 e3
  go_wp2_with fail
  refine (number_st R b s3 2 _ hb a3 (by omega) (by omega)).mono ?_
  rw [show (2 : Int).toNat = 2 from rfl, unhide e4]
  rintro e w5 ⟨rfl, a4, hg4⟩
  have b4 := grown_blk hg4 b3 (by omega)
  have d4 := grown_blk hg4 d3 (by omega)
  have hG4 := grown_trans hG3 hg4
  clear a3 b3 d3 hG3 hg4 e4
  go_wp2_with fail
  refine (number_st R b s4 2 _ hb a4 (by omega) (by omega)).mono ?_
  rw [show (2 : Int).toNat = 2 from rfl, unhide e5]
  rintro e w6 ⟨rfl, a5, hg5⟩
  have b5 := grown_blk hg5 b4 (by omega)
  have d5 := grown_blk hg5 d4 (by omega)
  have hG5 := grown_trans hG4 hg5
  clear a4 b4 d4 hG4 hg5 e5
  go_wp2_with fail
  refine (number_st R b s5 2 _ hb a5 (by omega) (by omega)).mono ?_
  rw [show (2 : Int).toNat = 2 from rfl, unhide e6]
  rintro e w7 ⟨rfl, a6, hg6⟩
  have b6 := grown_blk hg6 b5 (by omega)
  have d6 := grown_blk hg6 d5 (by omega)
  have hG6 := grown_trans hG5 hg6
  have hs6 : N + 1 < w7.heap.size := blk_lt d6
  clear a5 b5 d5 hG5 hg6 e6
  go_wp2_with fail
  refine (questions_st R b s6 n1 _ hb a6 h1).mono ?_
  rintro e w8 ⟨qa, qm, qc, qd, rfl, qown, hAt7, qrow, hg7⟩
  rw [← unhide f1] at hAt7
  obtain ⟨a7, b7, d7, l7, p7⟩ := after_call (o := 2) (.slice qa qm qc) hg7 hAt7 b6 d6 (by omega) (by omega) (by omega)
  obtain ⟨⟨x0, x1, x2, x3, x4, x5⟩, y0, y1, y2, y3, y4, y5⟩ := cells6 p7
  have hG7 := grown_own (grown_trans hG6 hg7) (N + 1) 2 (.slice qa qm qc) (by omega)
  have q7 : (w8.setCell ⟨N + 1, 2, none⟩ (.slice qa qm qc)).ownsRow (N + 2) 60 3 (.slice qa qm qc) qm qd := owns_later (owns_mono qown (by omega)) (grown_set _ _ _ _) (by omega)
  have Q7 := hide q7
  have QR := hide qrow
  clear p7 a6 b6 d6 hG6 hg7 hAt7 qown qrow q7 hs6
  go_wp2_with fail
  generalize w8.setCell ⟨N + 1, 2, none⟩ (.slice qa qm qc) = z7 at *
  clear x0 x1 x2 x3 x4 x5 y0 y1 y2 y3 y4 y5 l7 w8 w7
  have hs7 : N + 1 < z7.heap.size := blk_lt d7
  refine (records_st R b 0 false t1 n2 _ hb a7 h2 rfl).mono ?_
  rintro e w8 ⟨aa, am, ac, ad, rfl, aown, hAt8, arow, hg8⟩
  rw [← unhide f2] at hAt8
  obtain ⟨a8, b8, d8, l8, p8⟩ := after_call (o := 3) (.slice aa am ac) hg8 hAt8 b7 d7 (by omega) (by omega) (by omega)
  obtain ⟨⟨x0, x1, x2, x3, x4, x5⟩, y0, y1, y2, y3, y4, y5⟩ := cells6 p8
  have hG8 := grown_own (grown_trans hG7 hg8) (N + 1) 3 (.slice aa am ac) (by omega)
  have A8 := hide (owns_later (owns_mono aown (show N + 2 ≤ z7.heap.size by omega)) (grown_set w8 (N + 1) 3 (.slice aa am ac)) (by omega))
  have Q8 := hide (owns_call (P := N + 1) (o := 3) (u := .slice aa am ac) (unhide Q7) hg8 (by omega) (by omega))
  have AR := hide arow
  have ap1 := hide (apart_of (unhide Q7) aown (Nat.le_refl _))
  clear p8 a7 b7 d7 hG7 hg8 hAt8 aown arow Q7 hs7
  go_wp2_with fail
  generalize w8.setCell ⟨N + 1, 3, none⟩ (.slice aa am ac) = z8 at *
  clear x0 x1 x2 x3 x4 x5 y0 y1 y2 y3 y4 y5 l8 w8
  have hs8 : N + 1 < z8.heap.size := blk_lt d8
  refine (records_st R b 1 false t2 n3 _ hb a8 h3 rfl).mono ?_
  rintro e w8 ⟨ua, um, uc, ud, rfl, uown, hAt9, urow, hg9⟩
  rw [← unhide f3] at hAt9
  obtain ⟨a9, b9, d9, l9, p9⟩ := after_call (o := 4) (.slice ua um uc) hg9 hAt9 b8 d8 (by omega) (by omega) (by omega)
  obtain ⟨⟨x0, x1, x2, x3, x4, x5⟩, y0, y1, y2, y3, y4, y5⟩ := cells6 p9
  have hG9 := grown_own (grown_trans hG8 hg9) (N + 1) 4 (.slice ua um uc) (by omega)
  have U9 := hide (owns_later (owns_mono uown (show N + 2 ≤ z8.heap.size by omega)) (grown_set w8 (N + 1) 4 (.slice ua um uc)) (by omega))
  have Q9 := hide (owns_call (P := N + 1) (o := 4) (u := .slice ua um uc) (unhide Q8) hg9 (by omega) (by omega))
  have A9 := hide (owns_call (P := N + 1) (o := 4) (u := .slice ua um uc) (unhide A8) hg9 (by omega) (by omega))
  have UR := hide urow
  have ap2 := hide (apart_of (unhide Q8) uown (Nat.le_refl _))
  have ap3 := hide (apart_of (unhide A8) uown (Nat.le_refl _))
  clear p9 a8 b8 d8 hG8 hg9 hAt9 uown urow Q8 A8 hs8
  go_wp2_with fail
  generalize w8.setCell ⟨N + 1, 4, none⟩ (.slice ua um uc) = z9 at *
  clear x0 x1 x2 x3 x4 x5 y0 y1 y2 y3 y4 y5 l9 w8
  have hs9 : N + 1 < z9.heap.size := blk_lt d9
  refine (records_st R b 2 true t3 n4 _ hb a9 h4 rfl).mono ?_
  rintro e w8 ⟨xa, xm, xc, xd, rfl, xown, hAtX, xrow, hgX⟩
  rw [← unhide f4] at hAtX
  obtain ⟨aX, bX, dX, lX, pX⟩ := after_call (o := 5) (.slice xa xm xc) hgX hAtX b9 d9 (by omega) (by omega) (by omega)
  obtain ⟨⟨x0, x1, x2, x3, x4, x5⟩, y0, y1, y2, y3, y4, y5⟩ := cells6 pX
  have hGX := grown_own (grown_trans hG9 hgX) (N + 1) 5 (.slice xa xm xc) (by omega)
  have XX := hide (owns_later (owns_mono xown (show N + 2 ≤ z9.heap.size by omega)) (grown_set w8 (N + 1) 5 (.slice xa xm xc)) (by omega))
  have QX := hide (owns_call (P := N + 1) (o := 5) (u := .slice xa xm xc) (unhide Q9) hgX (by omega) (by omega))
  have AX := hide (owns_call (P := N + 1) (o := 5) (u := .slice xa xm xc) (unhide A9) hgX (by omega) (by omega))
  have UX := hide (owns_call (P := N + 1) (o := 5) (u := .slice xa xm xc) (unhide U9) hgX (by omega) (by omega))
  have XR := hide xrow
  have ap4 := hide (apart_of (unhide Q9) xown (Nat.le_refl _))
  have ap5 := hide (apart_of (unhide A9) xown (Nat.le_refl _))
  have ap6 := hide (apart_of (unhide U9) xown (Nat.le_refl _))
  obtain ⟨⟨u0, u1, u2, u3, u4, u5⟩, v0, v1, v2, v3, v4, v5⟩ := cells6 bX
  obtain ⟨⟨q0, q1, q2, q3, q4, q5⟩, o0, o1, o2, o3, o4, o5⟩ := cells6 (show (w8.setCell ⟨N + 1, 5, none⟩ (.slice xa xm xc)).heap[N + 1]? = some (.cells #[.int .i64 id, .int .i64 fl, .slice qa qm qc, .slice aa am ac, .slice ua um uc, .slice xa xm xc] 32 (0, 0)) from dX)
  have BX := hide bX
  clear pX a9 b9 d9 hG9 hgX hAtX xown xrow Q9 A9 U9 hs9 bX
  go_wp2_with fail
  generalize w8.setCell ⟨N + 1, 5, none⟩ (.slice xa xm xc) = wz at *
  obtain ⟨⟨g0, g1, g2, g3, g4, g5⟩, _⟩ := cells6 (store6 (unhide BX) (.int .i64 id) (.int .i64 fl) (.slice qa qm qc) (.slice aa am ac) (.slice ua um uc) (.slice xa xm xc))
  have keep : ∀ {e : TypeId} {size : Nat} {v : Value} {n : Nat} {xs : List Value}, wz.ownsRow (N + 2) e size v n xs → ((((((wz.setCell ⟨N, 0, none⟩ (.int .i64 id)).setCell ⟨N, 1, none⟩ (.int .i64 fl)).setCell ⟨N, 2, none⟩ (.slice qa qm qc)).setCell ⟨N, 3, none⟩ (.slice aa am ac)).setCell ⟨N, 4, none⟩ (.slice ua um uc)).setCell ⟨N, 5, none⟩ (.slice xa xm xc)).ownsRow N e size v n xs := by
    intro e size v n xs h
    refine owns_mono (N := N + 2) ?_ (by omega)
    exact owns_later (owns_later (owns_later (owns_later (owns_later (owns_later h (grown_set _ N _ _) (by omega)) (grown_set _ N _ _) (by omega)) (grown_set _ N _ _) (by omega)) (grown_set _ N _ _) (by omega)) (grown_set _ N _ _) (by omega)) (grown_set _ N _ _) (by omega)
  refine bodyPost_ret (v := .agg #[.int .i64 id, .int .i64 fl, .slice qa qm qc, .slice aa am ac, .slice ua um uc, .slice xa xm xc]) (by simp [results, Tryz.results75, go_sem, g0, g1, g2, g3, g4, g5]) rfl ⟨?_, ?_, ?_⟩
  · exact grown_own (grown_own (grown_own (grown_own (grown_own (grown_own hGX N 0 _ (by omega)) N 1 _ (by omega)) N 2 _ (by omega)) N 3 _ (by omega)) N 4 _ (by omega)) N 5 _ (by omega)
  · exact aX.keep ((blk_set_other (by omega) _ _).trans ((blk_set_other (by omega) _ _).trans ((blk_set_other (by omega) _ _).trans ((blk_set_other (by omega) _ _).trans ((blk_set_other (by omega) _ _).trans (blk_set_other (by omega) _ _))))))
  · exact ⟨qa, qm, qc, qd, aa, am, ac, ad, ua, um, uc, ud, xa, xm, xc, xd, rfl, keep (unhide QX), unhide QR, keep (unhide AX), unhide AR, keep (unhide UX), unhide UR, keep (unhide XX), unhide XR, unhide ap1, unhide ap2, unhide ap4, unhide ap3, unhide ap5, unhide ap6⟩

end Go.Proofs.YtdhobdmhnocbgaaGreat
