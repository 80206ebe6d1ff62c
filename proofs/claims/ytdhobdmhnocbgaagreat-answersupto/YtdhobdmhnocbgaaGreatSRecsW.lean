/-
  Walks: the reader's methods question, record.
-/
/-
  Walks: the reader's methods questions, records.
-/
/-
  Walks: the reader's method records.
-/
import Derived.Test.YtdhobdmhnocbgaaGreatSStates
import Derived.Deep.AppendLies
namespace Go.Proofs.YtdhobdmhnocbgaaGreat
open Go.RowKit Zr

/-- A result of three cells, stored into its own block. -/
theorem store3 {w : World} {P : Nat} {x0 x1 x2 : Value} {t : TypeId} (h : w.heap[P]? = some (.cells #[x0, x1, x2] t (0, 0))) (v0 v1 v2 : Value) :
    (((w.setCell ⟨P, 0, none⟩ v0).setCell ⟨P, 1, none⟩ v1).setCell ⟨P, 2, none⟩ v2).heap[P]? = some (.cells #[v0, v1, v2] t (0, 0)) := by
  rw [blk_set (blk_set (blk_set h _ _) _ _) _ _]; rfl
theorem store5 {w : World} {P : Nat} {x0 x1 x2 x3 x4 : Value} {t : TypeId} (h : w.heap[P]? = some (.cells #[x0, x1, x2, x3, x4] t (0, 0))) (v0 v1 v2 v3 v4 : Value) :
    (((((w.setCell ⟨P, 0, none⟩ v0).setCell ⟨P, 1, none⟩ v1).setCell ⟨P, 2, none⟩ v2).setCell ⟨P, 3, none⟩ v3).setCell ⟨P, 4, none⟩ v4).heap[P]? = some (.cells #[v0, v1, v2, v3, v4] t (0, 0)) := by
  rw [blk_set (blk_set (blk_set (blk_set (blk_set h _ _) _ _) _ _) _ _) _ _]; rfl
theorem grown_own {w w' : World} {R : Nat} (h : w.grownBy w' (some R)) (P o : Nat) (v : Value) (hP : w.heap.size ≤ P) : w.grownBy (w'.setCell ⟨P, o, none⟩ v) (some R) :=
  ⟨h.os, h.tape, h.output, by rw [size_set]; exact h.size, fun k hk hr => (blk_set_other (by omega) _ _).trans (h.block k hk hr)⟩

/-- A call on the reader, then a store of what it gives into a block of the caller's: what the caller's two blocks hold. -/
theorem after_call {w w1 : World} {R P N o : Nat} {b : ByteArray} {st : Except Int Nat} {A : Obj} {cs : Array Value} {t : TypeId} (v : Value) (hg : w.grownBy w1 (some R)) (hAt : At w1 R b st)
    (hN : w.heap[N]? = some A) (hP : w.heap[P]? = some (.cells cs t (0, 0))) (hNR : N ≠ R) (hPR : P ≠ R) (hNP : N ≠ P) :
    At (w1.setCell ⟨P, o, none⟩ v) R b st ∧ (w1.setCell ⟨P, o, none⟩ v).heap[N]? = some A ∧ (w1.setCell ⟨P, o, none⟩ v).heap[P]? = some (.cells (cs.setIfInBounds o v) t (0, 0)) ∧ P < w1.heap.size ∧ w1.heap[P]? = some (.cells cs t (0, 0)) :=
  ⟨hAt.keep (blk_set_other (Ne.symm hPR) _ _), (blk_set_other hNP _ _).trans (grown_blk hg hN hNR), blk_set (grown_blk hg hP hPR) _ _, blk_lt (grown_blk hg hP hPR), grown_blk hg hP hPR⟩

set_option maxHeartbeats 1000000 in
theorem question_walk (R : Nat) (b : ByteArray) (st st1 st2 st3 : Except Int Nat) (s : ByteArray) (ty cl : Nat) (w : World) (hb : b.size ≤ 65535) (hR : At w R b st)
    (e1 : Hid (nameSt b st = (st1, s))) (e2 : Hid (numSt b st1 2 = (st2, ty))) (e3 : Hid (numSt b st2 2 = (st3, cl))) :
    Calls Tryz.prog 139 #[.pointer (some ⟨R, 0, none⟩)] w fun e w' => e = .returned (.agg #[.string s, .int .i64 ty, .int .i64 cl]) ∧ At w' R b st3 ∧ w.grownBy w' (some R) := by
  have hRl := hR.lt
  generalize hN : w.heap.size = N
  rw [hN] at hRl
  go_enter Tryz.func139, Tryz.ntmps139
  go_wp2_with fail
  have hA := (two_new w (.cells #[.string ⟨#[]⟩, .int .i64 0, .int .i64 0] 60) (.cells #[.string ⟨#[]⟩, .int .i64 0, .int .i64 0] 60)).1
  have hB := (two_new w (.cells #[.string ⟨#[]⟩, .int .i64 0, .int .i64 0] 60) (.cells #[.string ⟨#[]⟩, .int .i64 0, .int .i64 0] 60)).2
  have hG := grown_alloc2 w (.cells #[.string ⟨#[]⟩, .int .i64 0, .int .i64 0] 60) (.cells #[.string ⟨#[]⟩, .int .i64 0, .int .i64 0] 60) (some R)
  have hR0 : At ((w.alloc (.cells #[.string ⟨#[]⟩, .int .i64 0, .int .i64 0] 60)).alloc (.cells #[.string ⟨#[]⟩, .int .i64 0, .int .i64 0] 60)) R b st :=
    hR.keep ((Below.heap_alloc _ _ _ (by simp; omega)).trans (Below.heap_alloc _ _ _ (by omega)))
  rw [hN] at hA hB
  generalize (w.alloc (.cells #[.string ⟨#[]⟩, .int .i64 0, .int .i64 0] 60)).alloc (.cells #[.string ⟨#[]⟩, .int .i64 0, .int .i64 0] 60) = w0 at *
  have HA := hide hA
  have HB := hide hB
  clear hA hB hR
  refine (name_st R b st _ hb hR0).mono ?_
  rw [unhide e1]
  rintro e w1 ⟨rfl, hAt1, hg1⟩
  obtain ⟨a1, b1, d1, l1, p1⟩ := after_call (o := 0) (.string s) hg1 hAt1 (unhide HA) (unhide HB) (by omega) (by omega) (by omega)
  obtain ⟨⟨x0, x1, x2⟩, y0, y1, y2⟩ := cells3 p1
  have hG1 := grown_own (grown_trans hG hg1) (N + 1) 0 (.string s) (by omega)
  clear p1 hR0 hG hg1 hAt1 HA HB e1
  go_wp2_with fail
  generalize w1.setCell ⟨N + 1, 0, none⟩ (.string s) = w2 at *
  clear x0 x1 x2 y0 y1 y2 l1 w1
  refine (number_st R b st1 2 _ hb a1 (by omega) (by omega)).mono ?_
  rw [show (2 : Int).toNat = 2 from rfl, unhide e2]
  rintro e w1 ⟨rfl, hAt1, hg1⟩
  obtain ⟨a2, b2, d2, l2, p2⟩ := after_call (o := 1) (.int .i64 ty) hg1 hAt1 b1 d1 (by omega) (by omega) (by omega)
  obtain ⟨⟨x0, x1, x2⟩, y0, y1, y2⟩ := cells3 p2
  have hG2 := grown_own (grown_trans hG1 hg1) (N + 1) 1 (.int .i64 ty) (by omega)
  clear a1 b1 d1 hG1 hg1 hAt1 e2 p2
  go_wp2_with fail
  generalize w1.setCell ⟨N + 1, 1, none⟩ (.int .i64 ty) = w3 at *
  clear x0 x1 x2 y0 y1 y2 l2 w1 w2
  refine (number_st R b st2 2 _ hb a2 (by omega) (by omega)).mono ?_
  rw [show (2 : Int).toNat = 2 from rfl, unhide e3]
  rintro e w1 ⟨rfl, hAt1, hg1⟩
  obtain ⟨a3, b3, d3, l3, p3⟩ := after_call (o := 2) (.int .i64 cl) hg1 hAt1 b2 d2 (by omega) (by omega) (by omega)
  obtain ⟨⟨x0, x1, x2⟩, y0, y1, y2⟩ := cells3 p3
  have hG3 := grown_own (grown_trans hG2 hg1) (N + 1) 2 (.int .i64 cl) (by omega)
  obtain ⟨⟨u0, u1, u2⟩, v0, v1, v2⟩ := cells3 b3
  obtain ⟨⟨q0, q1, q2⟩, o0, o1, o2⟩ := cells3 (show (w1.setCell ⟨N + 1, 2, none⟩ (.int .i64 cl)).heap[N + 1]? = some (.cells #[.string s, .int .i64 ty, .int .i64 cl] 60 (0, 0)) from d3)
  clear a2 b2 d2 hG2 hg1 hAt1 e3 p3
  go_wp2_with fail
  generalize w1.setCell ⟨N + 1, 2, none⟩ (.int .i64 cl) = wz at *
  obtain ⟨⟨g0, g1, g2⟩, _⟩ := cells3 (store3 b3 (.string s) (.int .i64 ty) (.int .i64 cl))
  refine bodyPost_ret (v := .agg #[.string s, .int .i64 ty, .int .i64 cl]) (by simp [results, Tryz.results139, go_sem, g0, g1, g2]) rfl ⟨rfl, ?_, ?_⟩
  · exact a3.keep ((blk_set_other (by omega) _ _).trans ((blk_set_other (by omega) _ _).trans (blk_set_other (by omega) _ _)))
  · exact grown_own (grown_own (grown_own hG3 N 0 _ (by omega)) N 1 _ (by omega)) N 2 _ (by omega)

set_option maxHeartbeats 1000000 in
theorem record_walk (R : Nat) (b : ByteArray) (st st1 st2 st3 st4 st5 : Except Int Nat) (s d : ByteArray) (ty cl ttl : Nat) (w : World) (hb : b.size ≤ 65535) (hR : At w R b st)
    (e1 : Hid (nameSt b st = (st1, s))) (e2 : Hid (numSt b st1 2 = (st2, ty))) (e3 : Hid (numSt b st2 2 = (st3, cl))) (e4 : Hid (numSt b st3 4 = (st4, ttl))) (e5 : Hid (dataSt b st4 ty = (st5, d))) :
    Calls Tryz.prog 140 #[.pointer (some ⟨R, 0, none⟩)] w fun e w' => e = .returned (.agg #[.string s, .int .i64 ty, .int .i64 cl, .int .i64 ttl, .string d]) ∧ At w' R b st5 ∧ w.grownBy w' (some R) := by
  have hRl := hR.lt
  generalize hN : w.heap.size = N
  rw [hN] at hRl
  go_enter Tryz.func140, Tryz.ntmps140
  go_wp2_with fail
  have hA := (two_new w (.cells #[.string ⟨#[]⟩, .int .i64 0, .int .i64 0, .int .i64 0, .string ⟨#[]⟩] 42) (.cells #[.string ⟨#[]⟩, .int .i64 0, .int .i64 0, .int .i64 0, .string ⟨#[]⟩] 42)).1
  have hB := (two_new w (.cells #[.string ⟨#[]⟩, .int .i64 0, .int .i64 0, .int .i64 0, .string ⟨#[]⟩] 42) (.cells #[.string ⟨#[]⟩, .int .i64 0, .int .i64 0, .int .i64 0, .string ⟨#[]⟩] 42)).2
  have hG := grown_alloc2 w (.cells #[.string ⟨#[]⟩, .int .i64 0, .int .i64 0, .int .i64 0, .string ⟨#[]⟩] 42) (.cells #[.string ⟨#[]⟩, .int .i64 0, .int .i64 0, .int .i64 0, .string ⟨#[]⟩] 42) (some R)
  have hR0 : At ((w.alloc (.cells #[.string ⟨#[]⟩, .int .i64 0, .int .i64 0, .int .i64 0, .string ⟨#[]⟩] 42)).alloc (.cells #[.string ⟨#[]⟩, .int .i64 0, .int .i64 0, .int .i64 0, .string ⟨#[]⟩] 42)) R b st :=
    hR.keep ((Below.heap_alloc _ _ _ (by simp; omega)).trans (Below.heap_alloc _ _ _ (by omega)))
  rw [hN] at hA hB
  generalize (w.alloc (.cells #[.string ⟨#[]⟩, .int .i64 0, .int .i64 0, .int .i64 0, .string ⟨#[]⟩] 42)).alloc (.cells #[.string ⟨#[]⟩, .int .i64 0, .int .i64 0, .int .i64 0, .string ⟨#[]⟩] 42) = w0 at *
  have HA := hide hA
  have HB := hide hB
  clear hA hB hR
  refine (name_st R b st _ hb hR0).mono ?_
  rw [unhide e1]
  rintro e w1 ⟨rfl, hAt1, hg1⟩
  obtain ⟨a1, b1, d1, l1, p1⟩ := after_call (o := 0) (.string s) hg1 hAt1 (unhide HA) (unhide HB) (by omega) (by omega) (by omega)
  obtain ⟨⟨x0, x1, x2, x3, x4⟩, y0, y1, y2, y3, y4⟩ := cells5 p1
  have hG1 := grown_own (grown_trans hG hg1) (N + 1) 0 (.string s) (by omega)
  clear p1 hR0 hG hg1 hAt1 HA HB e1
  go_wp2_with fail
  generalize w1.setCell ⟨N + 1, 0, none⟩ (.string s) = w2 at *
  clear x0 x1 x2 x3 x4 y0 y1 y2 y3 y4 l1 w1
  refine (number_st R b st1 2 _ hb a1 (by omega) (by omega)).mono ?_
  rw [show (2 : Int).toNat = 2 from rfl, unhide e2]
  rintro e w1 ⟨rfl, hAt1, hg1⟩
  obtain ⟨a2, b2, d2, l2, p2⟩ := after_call (o := 1) (.int .i64 ty) hg1 hAt1 b1 d1 (by omega) (by omega) (by omega)
  obtain ⟨⟨x0, x1, x2, x3, x4⟩, y0, y1, y2, y3, y4⟩ := cells5 p2
  have hG2 := grown_own (grown_trans hG1 hg1) (N + 1) 1 (.int .i64 ty) (by omega)
  clear a1 b1 d1 hG1 hg1 hAt1 e2 p2
  go_wp2_with fail
  generalize w1.setCell ⟨N + 1, 1, none⟩ (.int .i64 ty) = w3 at *
  clear x0 x1 x2 x3 x4 y0 y1 y2 y3 y4 l2 w1 w2
  refine (number_st R b st2 2 _ hb a2 (by omega) (by omega)).mono ?_
  rw [show (2 : Int).toNat = 2 from rfl, unhide e3]
  rintro e w1 ⟨rfl, hAt1, hg1⟩
  obtain ⟨a3, b3, d3, l3, p3⟩ := after_call (o := 2) (.int .i64 cl) hg1 hAt1 b2 d2 (by omega) (by omega) (by omega)
  obtain ⟨⟨x0, x1, x2, x3, x4⟩, y0, y1, y2, y3, y4⟩ := cells5 p3
  have hG3 := grown_own (grown_trans hG2 hg1) (N + 1) 2 (.int .i64 cl) (by omega)
  clear a2 b2 d2 hG2 hg1 hAt1 e3 p3
  go_wp2_with fail
  generalize w1.setCell ⟨N + 1, 2, none⟩ (.int .i64 cl) = w4 at *
  clear x0 x1 x2 x3 x4 y0 y1 y2 y3 y4 l3 w1 w3
  refine (number_st R b st3 4 _ hb a3 (by omega) (by omega)).mono ?_
  rw [show (4 : Int).toNat = 4 from rfl, unhide e4]
  rintro e w1 ⟨rfl, hAt1, hg1⟩
  obtain ⟨a4, b4, d4, l4, p4⟩ := after_call (o := 3) (.int .i64 ttl) hg1 hAt1 b3 d3 (by omega) (by omega) (by omega)
  obtain ⟨⟨x0, x1, x2, x3, x4⟩, y0, y1, y2, y3, y4⟩ := cells5 p4
  have hG4 := grown_own (grown_trans hG3 hg1) (N + 1) 3 (.int .i64 ttl) (by omega)
  have d4' : (w1.setCell ⟨N + 1, 3, none⟩ (.int .i64 ttl)).heap[N + 1]? = some (.cells #[.string s, .int .i64 ty, .int .i64 cl, .int .i64 ttl, .string ⟨#[]⟩] 42 (0, 0)) := d4
  obtain ⟨⟨u0, u1, u2, u3, u4⟩, v0, v1, v2, v3, v4⟩ := cells5 d4'
  clear a3 b3 d3 hG3 hg1 hAt1 e4 p4
  go_wp2_with fail
  generalize w1.setCell ⟨N + 1, 3, none⟩ (.int .i64 ttl) = w5 at *
  clear x0 x1 x2 x3 x4 y0 y1 y2 y3 y4 l4 w1 w4 u0 u1 u2 u3 u4 v0 v1 v2 v3 v4
  refine (data_st R b st4 ty _ hb a4 (by omega)).mono ?_
  rw [Int.toNat_natCast, unhide e5]
  rintro e w1 ⟨rfl, hAt1, hg1⟩
  obtain ⟨a5, b5, d5, l5, p5⟩ := after_call (o := 4) (.string d) hg1 hAt1 b4 d4' (by omega) (by omega) (by omega)
  obtain ⟨⟨x0, x1, x2, x3, x4⟩, y0, y1, y2, y3, y4⟩ := cells5 p5
  have hG5 := grown_own (grown_trans hG4 hg1) (N + 1) 4 (.string d) (by omega)
  obtain ⟨⟨u0, u1, u2, u3, u4⟩, v0, v1, v2, v3, v4⟩ := cells5 b5
  obtain ⟨⟨q0, q1, q2, q3, q4⟩, o0, o1, o2, o3, o4⟩ := cells5 (show (w1.setCell ⟨N + 1, 4, none⟩ (.string d)).heap[N + 1]? = some (.cells #[.string s, .int .i64 ty, .int .i64 cl, .int .i64 ttl, .string d] 42 (0, 0)) from d5)
  clear a4 b4 d4 d4' hG4 hg1 hAt1 e5 p5
  go_wp2_with fail
  generalize w1.setCell ⟨N + 1, 4, none⟩ (.string d) = wz at *
  obtain ⟨⟨g0, g1, g2, g3, g4⟩, _⟩ := cells5 (store5 b5 (.string s) (.int .i64 ty) (.int .i64 cl) (.int .i64 ttl) (.string d))
  refine bodyPost_ret (v := .agg #[.string s, .int .i64 ty, .int .i64 cl, .int .i64 ttl, .string d]) (by simp [results, Tryz.results140, go_sem, g0, g1, g2, g3, g4]) rfl ⟨rfl, ?_, ?_⟩
  · exact a5.keep ((blk_set_other (by omega) _ _).trans ((blk_set_other (by omega) _ _).trans ((blk_set_other (by omega) _ _).trans ((blk_set_other (by omega) _ _).trans (blk_set_other (by omega) _ _)))))
  · exact grown_own (grown_own (grown_own (grown_own (grown_own hG5 N 0 _ (by omega)) N 1 _ (by omega)) N 2 _ (by omega)) N 3 _ (by omega)) N 4 _ (by omega)

end Go.Proofs.YtdhobdmhnocbgaaGreat

namespace Go.Proofs.YtdhobdmhnocbgaaGreat
open Go.RowKit Zr

theorem Tryz.info60 : (Tryz.prog.info? 60).map (fun i => (i.zero, i.size, i.bytes)) = some (some (.agg #[.string ⟨#[]⟩, .int .i64 0, .int .i64 0]), 3, 32) := by kernel_rfl
theorem Tryz.info42 : (Tryz.prog.info? 42).map (fun i => (i.zero, i.size, i.bytes)) = some (some (.agg #[.string ⟨#[]⟩, .int .i64 0, .int .i64 0, .int .i64 0, .string ⟨#[]⟩]), 5, 56) := by kernel_rfl

theorem question_ok (R : Nat) (b : ByteArray) (p : Nat) (q : Qs) (p' : Nat) (w : World) (hb : b.size ≤ 65535) (hR : At w R b (.ok p)) (hq : Hid (questionAt b p = .ok (q, p'))) :
    Calls Tryz.prog 139 #[.pointer (some ⟨R, 0, none⟩)] w fun e w' => e = .returned (.agg #[.string q.name, .int .i64 q.ty, .int .i64 q.cl]) ∧ At w' R b (.ok p') ∧ w.grownBy w' (some R) := by
  have h := unhide hq
  unfold questionAt at h
  cases hx : nameAt b p with
  | error e => rw [hx] at h; simp at h
  | ok z =>
    obtain ⟨s, t⟩ := z
    rw [hx] at h
    simp only at h
    by_cases c : b.size < p + t + 4
    · rw [if_pos c] at h; simp at h
    · rw [if_neg c] at h
      simp only [Except.ok.injEq, Prod.mk.injEq] at h
      obtain ⟨rfl, rfl⟩ := h
      refine question_walk R b (.ok p) (.ok (p + t)) (.ok (p + t + 2)) (.ok (p + t + 4)) s (num b (p + t) 2) (num b (p + t + 2) 2) w hb hR ?_ ?_ ?_
      · show _ = _; unfold nameSt; simp only; rw [hx]
      · show _ = _; unfold numSt; simp only; rw [if_pos (by omega)]
      · show _ = _; unfold numSt; simp only; rw [if_pos (by omega)]

theorem question_err (R : Nat) (b : ByteArray) (p : Nat) (x : Int) (w : World) (hb : b.size ≤ 65535) (hR : At w R b (.ok p)) (hq : Hid (questionAt b p = .error x)) :
    Calls Tryz.prog 139 #[.pointer (some ⟨R, 0, none⟩)] w fun e w' => ∃ (s : ByteArray) (ty cl : Nat), e = .returned (.agg #[.string s, .int .i64 ty, .int .i64 cl]) ∧ At w' R b (.error x) ∧ w.grownBy w' (some R) := by
  have h := unhide hq
  unfold questionAt at h
  cases hx : nameAt b p with
  | error e =>
    rw [hx] at h
    simp only [Except.error.injEq] at h
    subst h
    refine (question_walk R b (.ok p) (.error e) (.error e) (.error e) ⟨#[]⟩ 0 0 w hb hR ?_ rfl rfl).mono fun e' w' h => ⟨_, _, _, h⟩
    show _ = _; unfold nameSt; simp only; rw [hx]
  | ok z =>
    obtain ⟨s, t⟩ := z
    rw [hx] at h
    simp only at h
    by_cases c : b.size < p + t + 4
    · rw [if_pos c] at h
      simp only [Except.error.injEq] at h
      subst h
      by_cases c2 : p + t + 2 ≤ b.size
      · refine (question_walk R b (.ok p) (.ok (p + t)) (.ok (p + t + 2)) (.error 2) s (num b (p + t) 2) 0 w hb hR ?_ ?_ ?_).mono fun e' w' h => ⟨_, _, _, h⟩
        · show _ = _; unfold nameSt; simp only; rw [hx]
        · show _ = _; unfold numSt; simp only; rw [if_pos c2]
        · show _ = _; unfold numSt; simp only; rw [if_neg (by omega)]
      · refine (question_walk R b (.ok p) (.ok (p + t)) (.error 2) (.error 2) s 0 0 w hb hR ?_ ?_ rfl).mono fun e' w' h => ⟨_, _, _, h⟩
        · show _ = _; unfold nameSt; simp only; rw [hx]
        · show _ = _; unfold numSt; simp only; rw [if_neg c2]
    · rw [if_neg c] at h; simp at h

/-- What one question leaves of the list so far. -/
def QsNext (b : ByteArray) (p : Nat) (s : ByteArray) (ty cl : Nat) (st : Except Int Nat) : Prop :=
  (∃ q p', questionAt b p = .ok (q, p') ∧ st = .ok p' ∧ s = q.name ∧ ty = q.ty ∧ cl = q.cl) ∨ (∃ x, questionAt b p = .error x ∧ st = .error x)

theorem question_next (R : Nat) (b : ByteArray) (p : Nat) (w : World) (hb : b.size ≤ 65535) (hR : At w R b (.ok p)) :
    Calls Tryz.prog 139 #[.pointer (some ⟨R, 0, none⟩)] w fun e w' => ∃ (s : ByteArray) (ty cl : Nat) (st : Except Int Nat), e = .returned (.agg #[.string s, .int .i64 ty, .int .i64 cl]) ∧ At w' R b st ∧ w.grownBy w' (some R) ∧ QsNext b p s ty cl st := by
  cases hq : questionAt b p with
  | ok z =>
    obtain ⟨q, p'⟩ := z
    exact (question_ok R b p q p' w hb hR hq).mono fun e w' ⟨h1, h2, h3⟩ => ⟨_, _, _, _, h1, h2, h3, .inl ⟨q, p', hq, rfl, rfl, rfl, rfl⟩⟩
  | error x => exact (question_err R b p x w hb hR hq).mono fun e w' ⟨s, ty, cl, h1, h2, h3⟩ => ⟨_, _, _, _, h1, h2, h3, .inr ⟨x, hq, rfl⟩⟩

def qcells : List Qs → List Value
  | [] => []
  | q :: l => .string q.name :: .int .i64 q.ty :: .int .i64 q.cl :: qcells l
theorem qcells_append (l m : List Qs) : qcells (l ++ m) = qcells l ++ qcells m := by
  induction l with
  | nil => rfl
  | cons q l ih => simp [qcells, ih]
theorem At.grown {w w' : World} {R : Nat} {b : ByteArray} {st : Except Int Nat} {row : Option Nat} (h : At w R b st) (hg : w.grownBy w' row) (hr : row ≠ some R) : At w' R b st :=
  h.keep (hg.block R h.lt (fun e => hr e.symm))

theorem grown_row {w w1 w2 : World} {R : Nat} {row : Option Nat} (h : w.grownBy w1 (some R)) (hg : w1.grownBy w2 row) (hr : ∀ k, row = some k → w.heap.size ≤ k) : w.grownBy w2 (some R) :=
  ⟨hg.os.trans h.os, hg.tape.trans h.tape, hg.output.trans h.output, Nat.le_trans h.size hg.size, fun k hk hne =>
    (hg.block k (Nat.lt_of_lt_of_le hk h.size) (fun e => by have := hr k e.symm; omega)).trans (h.block k hk hne)⟩

/-- What the list of questions comes to. -/
def qsSt (b : ByteArray) (st : Except Int Nat) (n : Nat) : Except Int (List Qs × Nat) :=
  match st with
  | .ok p => qsTo b p n
  | .error x => .error x

theorem cell_three_new (w : World) (B : Nat) (x y z : Value) (t : TypeId) (h : w.heap.size = B) : ∀ j u, [x, y, z][j]? = some u → (w.alloc (.cells #[x, y, z] t)).cell? ((⟨B, 0, none⟩ : Addr).add j) = some u := by
  subst h
  exact World.news_of_block (heap_alloc_new w _)
theorem cell_five_new (w : World) (B : Nat) (x y z s r : Value) (t : TypeId) (h : w.heap.size = B) : ∀ j u, [x, y, z, s, r][j]? = some u → (w.alloc (.cells #[x, y, z, s, r] t)).cell? ((⟨B, 0, none⟩ : Addr).add j) = some u := by
  subst h
  exact World.news_of_block (heap_alloc_new w _)

theorem owns_ne {w : World} {N : Nat} {e : TypeId} {size : Nat} {v : Value} {n : Nat} {xs : List Value} {R : Nat} (h : w.ownsRow N e size v n xs) (hR : R < N) : v.ownBlock ≠ some R := by
  intro hv
  have := (h.lt R hv).1
  omega
theorem owns_later {w w1 : World} {N : Nat} {e : TypeId} {size : Nat} {v : Value} {n : Nat} {xs : List Value} {R : Nat} (h : w.ownsRow N e size v n xs) (hg : w.grownBy w1 (some R)) (hR : R < N) : w1.ownsRow N e size v n xs :=
  h.kept hg (.inr (owns_ne h hR))

def QsPost (R : Nat) (b : ByteArray) (w' : World) (m : Nat) (cs : List Value) (res : Except Int (List Qs × Nat)) : Prop :=
  match res with
  | .ok (l, p) => At w' R b (.ok p) ∧ m = l.length ∧ cs = qcells l
  | .error x => At w' R b (.error x)

def QsDone (R N : Nat) (b : ByteArray) (w : World) (res : Except Int (List Qs × Nat)) (e : Ending) (w' : World) : Prop :=
  w.grownBy w' (some R) ∧ ∃ v m cs, e = .returned v ∧ w'.ownsRow N 60 3 v m cs ∧ QsPost R b w' m cs res

set_option maxHeartbeats 2000000 in
theorem questions_ok (R : Nat) (b : ByteArray) (k n : Nat) (w : World) (hb : b.size ≤ 65535) (hR : At w R b (.ok k)) (hn : n ≤ 65535) :
    Calls Tryz.prog 110 #[.pointer (some ⟨R, 0, none⟩), .int .i64 n] w fun e w' => QsDone R w.heap.size b w (qsTo b k n) e w' := by
  have hkb : k ≤ b.size := hR.1
  have hRl := hR.lt
  generalize hN : w.heap.size = N
  rw [hN] at hRl
  obtain ⟨i0, hi, hz0, hz1, hz2⟩ := info_parts Tryz.info60
  have Hi := hide hi
  have Hz0 := hide hz0
  have Hz1 := hide hz1
  have Hz2 := hide hz2
  clear hi hz0 hz1 hz2
  have HR := hide hR
  clear hR
  go_enter Tryz.func110, Tryz.ntmps110
  go_wp2_with fail
  go_loopg [5, 6] (n + 1) (fun g v i w' => ∃ (j : Nat) (cs : List Value) (st : Except Int Nat), i = .int .i64 j ∧ j ≤ n ∧ g = n + 1 - j ∧ Hid (w'.ownsRow N 60 3 v j cs) ∧ Hid (At w' R b st) ∧ Hid (w.grownBy w' (some R)) ∧ ((∃ l p, Hid (st = .ok p) ∧ Hid (qsTo b k j = .ok (l, p)) ∧ Hid (cs = qcells l)) ∨ (∃ x, Hid (st = .error x) ∧ Hid (qsTo b k j = .error x))))
  case atStart => exact ⟨0, [], .ok k, rfl, Nat.zero_le _, by omega, World.ownsRow_nil _ _ _ _, HR, grown_refl _ _, .inl ⟨[], k, rfl, rfl, rfl⟩⟩
  case round =>
    obtain ⟨j, cs, st, rfl, hj, hg, hown, hAt, hgr, hcase⟩ := hrel
    have hAtf := (unhide hAt).fail
    obtain ⟨af, az⟩ := hAtf
    rcases hcase with ⟨l, p, hst, hqs, hcs⟩ | ⟨x, hst, hqs⟩
    · have h1 := unhide hst
      subst h1
      have af' : wr.cell? ⟨R, 2, none⟩ = some (.int .i64 0) := af
      clear af
      by_cases c : j < n
      · go_wp2_with fail
        refine (question_next R b p _ hb (unhide hAt)).mono ?_
        rintro e w1 ⟨s, ty, cl, st', rfl, hAt1, hg1, hnext⟩
        have hown1 := owns_later (unhide hown) hg1 hRl
        have hgr1 := hide (grown_trans (unhide hgr) hg1)
        have hle : N ≤ w1.heap.size := by have := (unhide hgr1).size; omega
        have hA1 := hide hAt1
        have hO1 := hide hown1
        have hNx := hide hnext
        clear hAt1 hg1 hown1 hown hAt hgr af' az hnext
        go_wp2_with (at_builtin; refine wpList_append_lies _ rfl _ _ 29 rfl N 60 i0 (.agg #[.string ⟨#[]⟩, .int .i64 0, .int .i64 0]) 3 32 Tryz.underlying29 (unhide Hi) (unhide Hz0) (unhide Hz1) (unhide Hz2) rfl (by decide) u5 j cs (by rfl) (((unhide hO1).alloc _).alloc _) ⟨w1.heap.size + 1, 0, none⟩ 1 1 [.string s, .int .i64 ty, .int .i64 cl] (by rfl) rfl (cell_three_new _ _ _ _ _ _ (by simp)) (fun x hx => by simp at hx; rcases hx with rfl | rfl | rfl <;> rfl) (by decide) (by unfold maxLen; omega) (by omega) (by simp; omega) (w1.heap.size + 2) (by simp) ?_; intro g cap w3 hown3 hgrow3 hat3 hlt3)
        go_roundg (n + 1 - (j + 1))
        case measure => omega
        case rel =>
          have hrow : ∀ r, u5.ownBlock = some r → N ≤ r := fun r hr => ((unhide hO1).lt r hr).1
          have hgA := grown_alloc2 w1 (.cells #[.string s, .int .i64 ty, .int .i64 cl] 60) (.cells #[.string s, .int .i64 ty, .int .i64 cl] 60)
          refine ⟨j + 1, cs ++ [.string s, .int .i64 ty, .int .i64 cl], st', by go_num, by omega, rfl, hide hown3, ?_, ?_, ?_⟩
          · exact ((unhide hA1).grown (hgA none) (by simp)).grown hgrow3 (fun e => by have := hrow R e; omega)
          · exact grown_row (grown_row (unhide hgr1) (hgA none) (fun k h => by cases h)) hgrow3 (fun r hr => by rw [hN]; exact hrow r hr)
          · rcases unhide hNx with ⟨q, p', h1, h2, rfl, rfl, rfl⟩ | ⟨x, h1, h2⟩
            · refine .inl ⟨l ++ [q], p', h2, ?_, ?_⟩
              · show _ = _
                rw [qsTo, unhide hqs]; simp only; rw [h1]
              · show _ = _
                rw [unhide hcs, qcells_append]; rfl
            · refine .inr ⟨x, h2, ?_⟩
              show _ = _
              rw [qsTo, unhide hqs]; simp only; rw [h1]
      · have hjn : j = n := by omega
        subst hjn
        have hP : QsPost R b wr j cs (qsTo b k j) := by
          rw [unhide hqs]
          exact ⟨unhide hAt, (qsTo_bounds b k hkb j l p (unhide hqs)).1.symm, unhide hcs⟩
        have HP := hide hP
        clear hP
        go_wp2_with fail
        go_ret
        unfold QsDone
        exact ⟨unhide hgr, _, j, cs, rfl, unhide hown, unhide HP⟩
    · have h1 := unhide hst
      subst h1
      have af' : wr.cell? ⟨R, 2, none⟩ = some (.int .i64 x) := af
      have hx0 : (x == 0) = false := beq_eq_false_iff_ne.2 (unhide hAt).failNe
      clear af
      have hP : QsPost R b wr j cs (qsTo b k n) := by
        rw [qsTo_err b k j x (unhide hqs) n hj]
        exact unhide hAt
      have HP := hide hP
      clear hP
      by_cases c : j < n
      all_goals
        go_wp2_with fail
        go_ret
        unfold QsDone
        exact ⟨unhide hgr, _, j, cs, rfl, unhide hown, unhide HP⟩

set_option maxHeartbeats 400000 in
theorem questions_err (R : Nat) (b : ByteArray) (x : Int) (n : Nat) (w : World) (hR : At w R b (.error x)) :
    Calls Tryz.prog 110 #[.pointer (some ⟨R, 0, none⟩), .int .i64 n] w fun e w' => e = .returned (.slice none 0 0) ∧ w' = w := by
  obtain ⟨af, az⟩ := hR.fail
  have af' : w.cell? ⟨R, 2, none⟩ = some (.int .i64 x) := af
  have hx0 : (x == 0) = false := beq_eq_false_iff_ne.2 hR.failNe
  clear af hR
  by_cases c : (0 : Int) < n
  all_goals
    go_enter Tryz.func110, Tryz.ntmps110
    go_wp2_with fail
    refine wp_loop_rounds 1 ?_; rw [rounds_succ]
    go_wp2_with fail
    go_ret
    exact ⟨rfl, rfl⟩

end Go.Proofs.YtdhobdmhnocbgaaGreat

namespace Go.Proofs.YtdhobdmhnocbgaaGreat
open Go.RowKit Zr

def recSt (b : ByteArray) (st : Except Int Nat) : Except Int Nat × Rc :=
  let a1 := nameSt b st
  let a2 := numSt b a1.1 2
  let a3 := numSt b a2.1 2
  let a4 := numSt b a3.1 4
  let a5 := dataSt b a4.1 a2.2
  (a5.1, ⟨a1.2, a2.2, a3.2, a4.2, a5.2⟩)

theorem record_st (R : Nat) (b : ByteArray) (st : Except Int Nat) (w : World) (hb : b.size ≤ 65535) (hR : At w R b st) :
    Calls Tryz.prog 140 #[.pointer (some ⟨R, 0, none⟩)] w fun e w' => e = .returned (.agg #[.string (recSt b st).2.name, .int .i64 (recSt b st).2.ty, .int .i64 (recSt b st).2.cl, .int .i64 (recSt b st).2.ttl, .string (recSt b st).2.data]) ∧ At w' R b (recSt b st).1 ∧ w.grownBy w' (some R) :=
  record_walk R b st _ _ _ _ _ _ _ _ _ _ w hb hR rfl rfl rfl rfl rfl

theorem numSt_ok (b : ByteArray) (p n : Nat) (h : p + n ≤ b.size) : numSt b (.ok p) n = (.ok (p + n), num b p n) := by unfold numSt; simp only; rw [if_pos h]
theorem numSt_no (b : ByteArray) (p n : Nat) (h : ¬ p + n ≤ b.size) : numSt b (.ok p) n = (.error 2, 0) := by unfold numSt; simp only; rw [if_neg h]
theorem numSt_err (b : ByteArray) (x : Int) (n : Nat) : numSt b (.error x) n = (.error x, 0) := rfl
theorem dataSt_err (b : ByteArray) (x : Int) (n : Nat) : dataSt b (.error x) n = (.error x, ⟨#[]⟩) := rfl

/-- The reader's way and the plain one. -/
theorem recSt_spec (b : ByteArray) (p : Nat) : match recordAt b p with
    | .ok (x, p') => recSt b (.ok p) = (.ok p', x)
    | .error e => (recSt b (.ok p)).1 = .error e := by
  unfold recordAt recSt
  cases hx : nameAt b p with
  | error e =>
    have e1 : nameSt b (.ok p) = (.error e, ⟨#[]⟩) := by unfold nameSt; simp only; rw [hx]
    simp only [e1, numSt_err, dataSt_err]
  | ok z =>
    obtain ⟨s, t⟩ := z
    have e1 : nameSt b (.ok p) = (.ok (p + t), s) := by unfold nameSt; simp only; rw [hx]
    simp only [e1]
    by_cases c2 : p + t + 2 ≤ b.size
    · rw [numSt_ok b (p + t) 2 c2]
      by_cases c3 : p + t + 2 + 2 ≤ b.size
      · rw [numSt_ok b (p + t + 2) 2 c3]
        by_cases c4 : p + t + 2 + 2 + 4 ≤ b.size
        · rw [numSt_ok b (p + t + 2 + 2) 4 c4]
          by_cases c5 : b.size < p + t + 10
          · rw [if_pos c5]
            have e5 : dataSt b (.ok (p + t + 2 + 2 + 4)) (num b (p + t) 2) = (.error 2, ⟨#[]⟩) := by unfold dataSt; simp only; rw [if_pos (by omega)]
            simp only [e5]
          · rw [if_neg c5]
            by_cases c6 : b.size < p + t + 10 + num b (p + t + 8) 2
            · rw [if_pos c6]
              have e5 : dataSt b (.ok (p + t + 2 + 2 + 4)) (num b (p + t) 2) = (.error 2, ⟨#[]⟩) := by unfold dataSt; simp only; rw [if_pos (.inr c6)]
              simp only [e5]
            · rw [if_neg c6]
              have hn : ¬ (b.size < p + t + 2 + 2 + 4 + 2 ∨ b.size < p + t + 2 + 2 + 4 + 2 + num b (p + t + 2 + 2 + 4) 2) := by
                intro h
                rcases h with h | h
                · omega
                · exact c6 h
              cases hd : dataP b (p + t + 10) (num b (p + t + 8) 2) (num b (p + t) 2) with
              | none =>
                have hd' : dataP b (p + t + 2 + 2 + 4 + 2) (num b (p + t + 2 + 2 + 4) 2) (num b (p + t) 2) = none := hd
                have e5 : dataSt b (.ok (p + t + 2 + 2 + 4)) (num b (p + t) 2) = (.error 4, ⟨#[]⟩) := by unfold dataSt; simp only; rw [if_neg hn, hd']
                simp only [e5]
              | some d =>
                have hd' : dataP b (p + t + 2 + 2 + 4 + 2) (num b (p + t + 2 + 2 + 4) 2) (num b (p + t) 2) = some d := hd
                have e5 : dataSt b (.ok (p + t + 2 + 2 + 4)) (num b (p + t) 2) = (.ok (p + t + 10 + num b (p + t + 8) 2), d) := by unfold dataSt; simp only; rw [if_neg hn, hd']
                simp only [e5]
        · rw [numSt_no b (p + t + 2 + 2) 4 c4]
          rw [if_pos (by omega)]
          simp only [dataSt_err]
      · rw [numSt_no b (p + t + 2) 2 c3, if_pos (by omega)]
        simp only [numSt_err, dataSt_err]
    · rw [numSt_no b (p + t) 2 c2, if_pos (by omega)]
      simp only [numSt_err, dataSt_err]

def rcells : List Rc → List Value
  | [] => []
  | x :: l => .string x.name :: .int .i64 x.ty :: .int .i64 x.cl :: .int .i64 x.ttl :: .string x.data :: rcells l
theorem rcells_append (l m : List Rc) : rcells (l ++ m) = rcells l ++ rcells m := by
  induction l with
  | nil => rfl
  | cons q l ih => simp [rcells, ih]
/-- What holds of the loop's state after j records. -/
def RcInv (b : ByteArray) (part k j : Nat) (cs : List Value) (st : Except Int Nat) (mo : Bool) : Prop :=
  (∃ l p, st = .ok p ∧ rcTo b part k j = .ok (l, p) ∧ cs = rcells l ∧ mo = (part == 2 && !(l.any (fun y => y.ty == 41)))) ∨ (∃ x, st = .error x ∧ rcTo b part k j = .error x)

theorem rcInv_err (b : ByteArray) (part k j : Nat) (cs : List Value) (mo : Bool) (l : List Rc) (p : Nat) (h : rcTo b part k j = .ok (l, p)) (x : Int) (hx : recordAt b p = .error x) : RcInv b part k (j + 1) cs (.error x) mo :=
  .inr ⟨x, rfl, by rw [rcTo, h]; simp only; rw [hx]⟩
theorem rcInv_bad (b : ByteArray) (part k j : Nat) (cs : List Value) (mo : Bool) (l : List Rc) (p : Nat) (h : rcTo b part k j = .ok (l, p)) (x : Rc) (p' : Nat) (hx : recordAt b p = .ok (x, p')) (hm : misB l x part = true) : RcInv b part k (j + 1) cs (.error 5) mo :=
  .inr ⟨5, rfl, by rw [rcTo, h]; simp only; rw [hx]; simp only; rw [if_pos hm]⟩
theorem rcInv_good (b : ByteArray) (part k j : Nat) (mo : Bool) (l : List Rc) (p : Nat) (h : rcTo b part k j = .ok (l, p)) (x : Rc) (p' : Nat) (hx : recordAt b p = .ok (x, p')) (hm : misB l x part = false)
    (hmo : mo = (part == 2 && !((l ++ [x]).any (fun y => y.ty == 41)))) : RcInv b part k (j + 1) (rcells l ++ rcells [x]) (.ok p') mo :=
  .inl ⟨l ++ [x], p', rfl, by rw [rcTo, h]; simp only; rw [hx]; simp only; rw [if_neg (by rw [hm]; decide)], (rcells_append l [x]).symm, hmo⟩

def RcPost (R : Nat) (b : ByteArray) (w' : World) (m : Nat) (cs : List Value) (res : Except Int (List Rc × Nat)) : Prop :=
  match res with
  | .ok (l, p) => At w' R b (.ok p) ∧ m = l.length ∧ cs = rcells l
  | .error x => At w' R b (.error x)

def RcDone (R N : Nat) (b : ByteArray) (w : World) (res : Except Int (List Rc × Nat)) (e : Ending) (w' : World) : Prop :=
  w.grownBy w' (some R) ∧ ∃ v m cs, e = .returned v ∧ w'.ownsRow N 42 5 v m cs ∧ RcPost R b w' m cs res

/-- The five ways of a round. -/
theorem rc_five (b : ByteArray) (part k j : Nat) (l : List Rc) (p : Nat) (mo : Bool) (st' : Except Int Nat) (x : Rc) (hqs : rcTo b part k j = .ok (l, p)) (hmo : mo = (part == 2 && !(l.any (fun y => y.ty == 41))))
    (hst : ∀ e, st' = .error e → e ≠ 0)
    (hsp : match recordAt b p with
      | .ok (y, p') => (st', x) = (.ok p', y)
      | .error e => st' = .error e) :
    (∃ e0, st' = .error e0 ∧ (e0 == 0) = false ∧ RcInv b part k (j + 1) (rcells l ++ rcells [x]) (.error e0) mo) ∨
    (∃ p', st' = .ok p' ∧ ((x.ty : Int) == 41) = true ∧ mo = false ∧ RcInv b part k (j + 1) (rcells l ++ rcells [x]) (.error 5) false) ∨
    (∃ p', st' = .ok p' ∧ ((x.ty : Int) == 41) = true ∧ mo = true ∧ (x.name.toList == [0]) = true ∧ RcInv b part k (j + 1) (rcells l ++ rcells [x]) (.ok p') false) ∨
    (∃ p', st' = .ok p' ∧ ((x.ty : Int) == 41) = true ∧ mo = true ∧ (x.name.toList == [0]) = false ∧ RcInv b part k (j + 1) (rcells l ++ rcells [x]) (.error 5) false) ∨
    (∃ p', st' = .ok p' ∧ ((x.ty : Int) == 41) = false ∧ RcInv b part k (j + 1) (rcells l ++ rcells [x]) (.ok p') mo) := by
  cases hrc : recordAt b p with
  | error e0 =>
    rw [hrc] at hsp
    simp only at hsp
    exact .inl ⟨e0, hsp, beq_eq_false_iff_ne.2 (hst e0 hsp), rcInv_err b part k j _ mo l p hqs e0 hrc⟩
  | ok z =>
    obtain ⟨y, p'⟩ := z
    rw [hrc] at hsp
    simp only [Prod.mk.injEq] at hsp
    obtain ⟨rfl, rfl⟩ := hsp
    refine .inr ?_
    by_cases d41 : x.ty = 41
    · have t41 : ((x.ty : Int) == 41) = true := by rw [beq_iff_eq]; omega
      cases hc : mo with
      | false =>
        refine .inl ⟨p', rfl, t41, rfl, rcInv_bad b part k j _ false l p hqs x p' hrc ?_⟩
        rw [hc] at hmo
        unfold misB
        rw [d41]
        cases h2 : (part == 2) with
        | false => simp [bne, h2]
        | true =>
          cases h4 : (l.any fun y => y.ty == 41) with
          | true => rfl
          | false => rw [h2, h4] at hmo; exact absurd hmo (by decide)
      | true =>
        rw [hc] at hmo
        have hp2 : (part == 2) = true := by
          cases h2 : (part == 2) with
          | true => rfl
          | false => rw [h2, Bool.false_and] at hmo; exact absurd hmo (by decide)
        have hany : (l.any fun y => y.ty == 41) = false := by
          cases h4 : (l.any fun y => y.ty == 41) with
          | false => rfl
          | true => rw [h4, hp2] at hmo; exact absurd hmo (by decide)
        have hbe := bytes_eqb x.name ⟨#[0]⟩
        have h0 : (⟨#[0]⟩ : ByteArray).toList = [0] := by rw [ByteArray.toList_eq]
        rw [h0] at hbe
        by_cases hnm : x.name = ⟨#[0]⟩
        · refine .inr (.inl ⟨p', rfl, t41, rfl, by rw [hbe]; simp [hnm], rcInv_good b part k j false l p hqs x p' hrc ?_ (by simp [d41])⟩)
          unfold misB
          rw [d41, hany, hnm]
          simp [bne, hp2]
        · refine .inr (.inr (.inl ⟨p', rfl, t41, rfl, by rw [hbe]; simp [hnm], rcInv_bad b part k j _ false l p hqs x p' hrc ?_⟩))
          unfold misB
          rw [d41]
          simp [hnm]
    · have hb41 : (x.ty == 41) = false := beq_eq_false_iff_ne.2 d41
      refine .inr (.inr (.inr ⟨p', rfl, beq_eq_false_iff_ne.2 (by omega), rcInv_good b part k j mo l p hqs x p' hrc (by unfold misB; rw [hb41]; rfl) ?_⟩))
      rw [hmo, List.any_append]
      simp [hb41]

/-- What the round's tail leans on. -/
structure Tail (R N H : Nat) (b : ByteArray) (w X : World) (v : Value) (j : Nat) (cs : List Value) (st : Except Int Nat) : Prop where
  at_ : At X R b st
  own : X.ownsRow N 42 5 v j cs
  grown : w.grownBy X (some R)
  size : X.heap.size = H

theorem tail_same {R N : Nat} {b : ByteArray} {w w1 : World} {v : Value} {j : Nat} {cs : List Value} {st : Except Int Nat} (hA : At w1 R b st) (hO : w1.ownsRow N 42 5 v j cs) (hG : w.grownBy w1 (some R)) :
    Tail R N w1.heap.size b w w1 v j cs st := ⟨hA, hO, hG, rfl⟩

theorem tail_fail {R N : Nat} {b : ByteArray} {w w1 : World} {v : Value} {j : Nat} {cs : List Value} {p : Nat} {part k j' : Nat} {cs' : List Value} {mo : Bool} (_ : RcInv b part k j' cs' (.error 5) mo) (hA : At w1 R b (.ok p)) (hO : w1.ownsRow N 42 5 v j cs) (hG : w.grownBy w1 (some R)) (hR : R < N) :
    Tail R N w1.heap.size b w (w1.setCell ⟨R, 2, none⟩ (.int .i64 5)) v j cs (.error 5) :=
  ⟨⟨by decide, p, rdr_set2 hA.2 5⟩, owns_later hO (grown_set _ _ _ _) hR, grown_trans hG (grown_set _ _ _ _), size_set _ _ _⟩

set_option maxHeartbeats 2000000 in
theorem records_ok (R : Nat) (b : ByteArray) (part k n : Nat) (ex : Bool) (w : World) (hb : b.size ≤ 65535) (hR : At w R b (.ok k)) (hn : n ≤ 65535) (hex : Hid (ex = (part == 2))) :
    Calls Tryz.prog 111 #[.pointer (some ⟨R, 0, none⟩), .int .i64 n, .bool ex] w fun e w' => RcDone R w.heap.size b w (rcTo b part k n) e w' := by
  have hkb : k ≤ b.size := hR.1
  have hRl := hR.lt
  generalize hN : w.heap.size = N
  rw [hN] at hRl
  obtain ⟨i0, hi, hz0, hz1, hz2⟩ := info_parts Tryz.info42
  have Hi := hide hi
  have Hz0 := hide hz0
  have Hz1 := hide hz1
  have Hz2 := hide hz2
  clear hi hz0 hz1 hz2
  have HR := hide hR
  clear hR
  go_enter Tryz.func111, Tryz.ntmps111
  go_wp2_with fail
  go_loopg [7, 8, 9] (n + 1) (fun g v mv i w' => ∃ (j : Nat) (cs : List Value) (st : Except Int Nat) (mo : Bool), i = .int .i64 j ∧ mv = .bool mo ∧ j ≤ n ∧ g = n + 1 - j ∧ Hid (w'.ownsRow N 42 5 v j cs) ∧ Hid (At w' R b st) ∧ Hid (w.grownBy w' (some R)) ∧ Hid (RcInv b part k j cs st mo))
  case atStart => exact ⟨0, [], .ok k, ex, rfl, rfl, Nat.zero_le _, by omega, World.ownsRow_nil _ _ _ _, HR, grown_refl _ _, .inl ⟨[], k, rfl, rfl, rfl, by rw [unhide hex]; simp⟩⟩
  case round =>
    obtain ⟨j, cs, st, mo, rfl, rfl, hj, hg, hown, hAt, hgr, hinv⟩ := hrel
    obtain ⟨af, az⟩ := (unhide hAt).fail
    rcases unhide hinv with ⟨l, p, rfl, hqs, rfl, hmo⟩ | ⟨x, rfl, hqs⟩
    · have af' : wr.cell? ⟨R, 2, none⟩ = some (.int .i64 0) := af
      clear af hinv
      have Hqs := hide hqs
      have Hmo := hide hmo
      clear hqs hmo
      by_cases c : j < n
      · go_wp2_with fail
        have hsp := recSt_spec b p
        have hcall := record_st R b (.ok p) wr hb (unhide hAt)
        generalize hrs : recSt b (.ok p) = rs at hsp hcall
        obtain ⟨st', x⟩ := rs
        simp only at hsp hcall
        refine hcall.mono ?_
        clear hcall hrs
        rintro e w1 ⟨rfl, hAt1, hg1⟩
        have hown1 := owns_later (unhide hown) hg1 hRl
        have hgr1 := hide (grown_trans (unhide hgr) hg1)
        have hle : N ≤ w1.heap.size := by have := (unhide hgr1).size; omega
        have hA1 := hide hAt1
        have hO1 := hide hown1
        obtain ⟨g2, g3⟩ := hAt1.fail
        have hR1 := hAt1.lt
        clear hAt1 hg1 hown1 hown hAt hgr af' az
        have hrow : ∀ r, u7.ownBlock = some r → N ≤ r := fun r hr => ((unhide hO1).lt r hr).1
        have Hrow := hide hrow
        clear hrow
        have five := rc_five b part k j l p mo st' x (unhide Hqs) (unhide Hmo) (fun e he => by have := unhide hA1; rw [he] at this; exact this.failNe) hsp
        clear hsp Hqs Hmo
        rcases five with ⟨e0, rfl, f1, hv⟩ | ⟨p', rfl, f1, rfl, hv⟩ | ⟨p', rfl, f1, rfl, f2, hv⟩ | ⟨p', rfl, f1, rfl, f2, hv⟩ | ⟨p', rfl, f1, hv⟩
        all_goals
          first
            | have ht := hide (tail_fail hv (unhide hA1) (unhide hO1) (unhide hgr1) hRl)
            | have ht := hide (tail_same (unhide hA1) (unhide hO1) (unhide hgr1))
          have hinv2 := hide hv
          clear hv
          simp only [failOf] at g2
          go_upto_region 11 with fail
          go_wp2_with (at_builtin; refine wpList_append_lies _ rfl _ _ 30 rfl N 42 i0 (.agg #[.string ⟨#[]⟩, .int .i64 0, .int .i64 0, .int .i64 0, .string ⟨#[]⟩]) 5 56 Tryz.underlying30 (unhide Hi) (unhide Hz0) (unhide Hz1) (unhide Hz2) rfl (by decide) u7 j (rcells l) (by rfl) (((unhide ht).own.alloc _).alloc _) ⟨w1.heap.size + 1, 0, none⟩ 1 1 [.string x.name, .int .i64 x.ty, .int .i64 x.cl, .int .i64 x.ttl, .string x.data] (by rfl) rfl (cell_five_new _ _ _ _ _ _ _ _ (by simp [(unhide ht).size])) (fun x hx => by simp at hx; rcases hx with rfl | rfl | rfl | rfl | rfl <;> rfl) (by decide) (by unfold maxLen; omega) (by omega) (by simp [(unhide ht).size]; omega) (w1.heap.size + 2) (by simp [(unhide ht).size]) ?_; intro g cap w3 hown3 hgrow3 hat3 hlt3)
          go_roundg (n + 1 - (j + 1))
          case measure => omega
          case rel =>
            refine ⟨j + 1, rcells l ++ rcells [x], _, _, by go_num, rfl, by omega, rfl, hide hown3, ?_, ?_, hinv2⟩
            · exact ((unhide ht).at_.grown (grown_alloc2 _ _ _ none) (by simp)).grown hgrow3 (fun e => by have := unhide Hrow R e; omega)
            · exact grown_row (grown_row (unhide ht).grown (grown_alloc2 _ _ _ none) (fun k h => by cases h)) hgrow3 (fun r hr => by rw [hN]; exact unhide Hrow r hr)
      · have hjn : j = n := by omega
        subst hjn
        have hP : RcPost R b wr j (rcells l) (rcTo b part k j) := by
          rw [unhide Hqs]
          exact ⟨unhide hAt, (rcTo_bounds b part k hkb j l p (unhide Hqs)).1.symm, rfl⟩
        have HP := hide hP
        clear hP
        go_wp2_with fail
        go_ret
        unfold RcDone
        exact ⟨unhide hgr, _, j, _, rfl, unhide hown, unhide HP⟩
    · have af' : wr.cell? ⟨R, 2, none⟩ = some (.int .i64 x) := af
      have hx0 : (x == 0) = false := beq_eq_false_iff_ne.2 (unhide hAt).failNe
      clear af hinv
      have hP : RcPost R b wr j cs (rcTo b part k n) := by
        rw [rcTo_err b part k j x hqs n hj]
        exact unhide hAt
      have HP := hide hP
      clear hP hqs
      by_cases c : j < n
      all_goals
        go_wp2_with fail
        go_ret
        unfold RcDone
        exact ⟨unhide hgr, _, j, cs, rfl, unhide hown, unhide HP⟩

set_option maxHeartbeats 400000 in
theorem records_err (R : Nat) (b : ByteArray) (x : Int) (n : Nat) (ex : Bool) (w : World) (hR : At w R b (.error x)) :
    Calls Tryz.prog 111 #[.pointer (some ⟨R, 0, none⟩), .int .i64 n, .bool ex] w fun e w' => e = .returned (.slice none 0 0) ∧ w' = w := by
  obtain ⟨af, az⟩ := hR.fail
  have af' : w.cell? ⟨R, 2, none⟩ = some (.int .i64 x) := af
  have hx0 : (x == 0) = false := beq_eq_false_iff_ne.2 hR.failNe
  clear af hR
  by_cases c : (0 : Int) < n
  all_goals
    go_enter Tryz.func111, Tryz.ntmps111
    go_wp2_with fail
    refine wp_loop_rounds 1 ?_; rw [rounds_succ]
    go_wp2_with fail
    go_ret
    exact ⟨rfl, rfl⟩

end Go.Proofs.YtdhobdmhnocbgaaGreat
