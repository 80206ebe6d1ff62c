/-
  Walks: the reader's methods question, record.
-/
import Derived.Test.YtdhobdmhnocbgaaSStates
namespace Go.Proofs.Ytdhobdmhnocbgaa
open Go.RowKit Zr

/-- A result of three cells, stored into its own block. -/
theorem store3 {w : World} {P : Nat} {x0 x1 x2 : Value} {t : TypeId} (h : w.heap[P]? = some (.cells #[x0, x1, x2] t (0, 0))) (v0 v1 v2 : Value) :
    (((w.setCell ⟨P, 0, none⟩ v0).setCell ⟨P, 1, none⟩ v1).setCell ⟨P, 2, none⟩ v2).heap[P]? = some (.cells #[v0, v1, v2] t (0, 0)) := by
  rw [blk_set (blk_set (blk_set h _ _) _ _) _ _]; rfl
theorem store5 {w : World} {P : Nat} {x0 x1 x2 x3 x4 : Value} {t : TypeId} (h : w.heap[P]? = some (.cells #[x0, x1, x2, x3, x4] t (0, 0))) (v0 v1 v2 v3 v4 : Value) :
    (((((w.setCell ⟨P, 0, none⟩ v0).setCell ⟨P, 1, none⟩ v1).setCell ⟨P, 2, none⟩ v2).setCell ⟨P, 3, none⟩ v3).setCell ⟨P, 4, none⟩ v4).heap[P]? = some (.cells #[v0, v1, v2, v3, v4] t (0, 0)) := by
  rw [blk_set (blk_set (blk_set (blk_set (blk_set h _ _) _ _) _ _) _ _) _ _]; rfl
theorem grown_own {w w' : World} {R : Nat} (h : w.grownBy w' (some R)) (P o : Nat) (v : Value) (hP : w.heap.size ≤ P) : w.grownBy (w'.setCell ⟨P, o, none⟩ v) (some R) :=
  ⟨h.os, h.tape, h.output, by rw [size_set]; exact h.size, fun k hk hr => (blk_set_other (by omega) _ _).trans (h.block k hk hr)⟩

/-- A call on the reader, then a store of what it gives into a block of the caller's: what the caller's two blocks hold. -/
theorem after_call {w w1 : World} {R P N o : Nat} {b : ByteArray} {st : Except Int Nat} {A : Obj} {cs : Array Value} {t : TypeId} (v : Value) (hg : w.grownBy w1 (some R)) (hAt : At w1 R b st)
    (hN : w.heap[N]? = some A) (hP : w.heap[P]? = some (.cells cs t (0, 0))) (hNR : N ≠ R) (hPR : P ≠ R) (hNP : N ≠ P) :
    At (w1.setCell ⟨P, o, none⟩ v) R b st ∧ (w1.setCell ⟨P, o, none⟩ v).heap[N]? = some A ∧ (w1.setCell ⟨P, o, none⟩ v).heap[P]? = some (.cells (cs.setIfInBounds o v) t (0, 0)) ∧ P < w1.heap.size ∧ w1.heap[P]? = some (.cells cs t (0, 0)) :=
  ⟨hAt.keep (blk_set_other (Ne.symm hPR) _ _), (blk_set_other hNP _ _).trans (grown_blk hg hN hNR), blk_set (grown_blk hg hP hPR) _ _, blk_lt (grown_blk hg hP hPR), grown_blk hg hP hPR⟩

set_option maxHeartbeats 1000000 in
theorem question_walk (R : Nat) (b : ByteArray) (st st1 st2 st3 : Except Int Nat) (s : ByteArray) (ty cl : Nat) (w : World) (hb : b.size ≤ 65535) (hR : At w R b st)
    (e1 : Hid (nameSt b st = (st1, s))) (e2 : Hid (numSt b st1 2 = (st2, ty))) (e3 : Hid (numSt b st2 2 = (st3, cl))) :
    Calls Try.prog 157 #[.pointer (some ⟨R, 0, none⟩)] w fun e w' => e = .returned (.agg #[.string s, .int .i64 ty, .int .i64 cl]) ∧ At w' R b st3 ∧ w.grownBy w' (some R) := by
  have hRl := hR.lt
  generalize hN : w.heap.size = N
  rw [hN] at hRl
  go_enter Try.func157, Try.ntmps157
  go_wp2_with fail
  have hA := (two_new w (.cells #[.string ⟨#[]⟩, .int .i64 0, .int .i64 0] 74) (.cells #[.string ⟨#[]⟩, .int .i64 0, .int .i64 0] 74)).1
  have hB := (two_new w (.cells #[.string ⟨#[]⟩, .int .i64 0, .int .i64 0] 74) (.cells #[.string ⟨#[]⟩, .int .i64 0, .int .i64 0] 74)).2
  have hG := grown_alloc2 w (.cells #[.string ⟨#[]⟩, .int .i64 0, .int .i64 0] 74) (.cells #[.string ⟨#[]⟩, .int .i64 0, .int .i64 0] 74) (some R)
  have hR0 : At ((w.alloc (.cells #[.string ⟨#[]⟩, .int .i64 0, .int .i64 0] 74)).alloc (.cells #[.string ⟨#[]⟩, .int .i64 0, .int .i64 0] 74)) R b st :=
    hR.keep ((Below.heap_alloc _ _ _ (by simp; omega)).trans (Below.heap_alloc _ _ _ (by omega)))
  rw [hN] at hA hB
  generalize (w.alloc (.cells #[.string ⟨#[]⟩, .int .i64 0, .int .i64 0] 74)).alloc (.cells #[.string ⟨#[]⟩, .int .i64 0, .int .i64 0] 74) = w0 at *
  have HA := hide hA
  have HB := hide hB
  clear hA hB hR
  refine (name_st R b st _ hb hR0).mono ?_
  rw [unhide e1]
  rintro e w1 ⟨rfl, hAt1, hg1⟩
  obtain ⟨a1, b1, d1, l1, p1⟩ := after_call (o := 0) (.string s) hg1 hAt1 (unhide HA) (unhide HB) (by omega) (by omega) (by omega)
  obtain ⟨⟨x0, x1, x2⟩, y0, y1, y2⟩ := cells3 p1
  have hG1 := grown_own (grown_trans hG hg1) (N + 1) 0 (.string s) (by omega)
  clear p1 hR0 hG hg1 hAt1 HA HB e1
  go_wp2_with fail
  generalize w1.setCell ⟨N + 1, 0, none⟩ (.string s) = w2 at *
  clear x0 x1 x2 y0 y1 y2 l1 w1
  refine (number_st R b st1 2 _ hb a1 (by omega) (by omega)).mono ?_
  rw [show (2 : Int).toNat = 2 from rfl, unhide e2]
  rintro e w1 ⟨rfl, hAt1, hg1⟩
  obtain ⟨a2, b2, d2, l2, p2⟩ := after_call (o := 1) (.int .i64 ty) hg1 hAt1 b1 d1 (by omega) (by omega) (by omega)
  obtain ⟨⟨x0, x1, x2⟩, y0, y1, y2⟩ := cells3 p2
  have hG2 := grown_own (grown_trans hG1 hg1) (N + 1) 1 (.int .i64 ty) (by omega)
  clear a1 b1 d1 hG1 hg1 hAt1 e2 p2
  go_wp2_with fail
  generalize w1.setCell ⟨N + 1, 1, none⟩ (.int .i64 ty) = w3 at *
  clear x0 x1 x2 y0 y1 y2 l2 w1 w2
  refine (number_st R b st2 2 _ hb a2 (by omega) (by omega)).mono ?_
  rw [show (2 : Int).toNat = 2 from rfl, unhide e3]
  rintro e w1 ⟨rfl, hAt1, hg1⟩
  obtain ⟨a3, b3, d3, l3, p3⟩ := after_call (o := 2) (.int .i64 cl) hg1 hAt1 b2 d2 (by omega) (by omega) (by omega)
  obtain ⟨⟨x0, x1, x2⟩, y0, y1, y2⟩ := cells3 p3
  have hG3 := grown_own (grown_trans hG2 hg1) (N + 1) 2 (.int .i64 cl) (by omega)
  obtain ⟨⟨u0, u1, u2⟩, v0, v1, v2⟩ := cells3 b3
  obtain ⟨⟨q0, q1, q2⟩, o0, o1, o2⟩ := cells3 (show (w1.setCell ⟨N + 1, 2, none⟩ (.int .i64 cl)).heap[N + 1]? = some (.cells #[.string s, .int .i64 ty, .int .i64 cl] 74 (0, 0)) from d3)
  clear a2 b2 d2 hG2 hg1 hAt1 e3 p3
  go_wp2_with fail
  generalize w1.setCell ⟨N + 1, 2, none⟩ (.int .i64 cl) = wz at *
  obtain ⟨⟨g0, g1, g2⟩, _⟩ := cells3 (store3 b3 (.string s) (.int .i64 ty) (.int .i64 cl))
  refine bodyPost_ret (v := .agg #[.string s, .int .i64 ty, .int .i64 cl]) (by simp [results, Try.results157, go_sem, g0, g1, g2]) rfl ⟨rfl, ?_, ?_⟩
  · exact a3.keep ((blk_set_other (by omega) _ _).trans ((blk_set_other (by omega) _ _).trans (blk_set_other (by omega) _ _)))
  · exact grown_own (grown_own (grown_own hG3 N 0 _ (by omega)) N 1 _ (by omega)) N 2 _ (by omega)

set_option maxHeartbeats 1000000 in
theorem record_walk (R : Nat) (b : ByteArray) (st st1 st2 st3 st4 st5 : Except Int Nat) (s d : ByteArray) (ty cl ttl : Nat) (w : World) (hb : b.size ≤ 65535) (hR : At w R b st)
    (e1 : Hid (nameSt b st = (st1, s))) (e2 : Hid (numSt b st1 2 = (st2, ty))) (e3 : Hid (numSt b st2 2 = (st3, cl))) (e4 : Hid (numSt b st3 4 = (st4, ttl))) (e5 : Hid (dataSt b st4 ty = (st5, d))) :
    Calls Try.prog 158 #[.pointer (some ⟨R, 0, none⟩)] w fun e w' => e = .returned (.agg #[.string s, .int .i64 ty, .int .i64 cl, .int .i64 ttl, .string d]) ∧ At w' R b st5 ∧ w.grownBy w' (some R) := by
  have hRl := hR.lt
  generalize hN : w.heap.size = N
  rw [hN] at hRl
  go_enter Try.func158, Try.ntmps158
  go_wp2_with fail
  have hA := (two_new w (.cells #[.string ⟨#[]⟩, .int .i64 0, .int .i64 0, .int .i64 0, .string ⟨#[]⟩] 86) (.cells #[.string ⟨#[]⟩, .int .i64 0, .int .i64 0, .int .i64 0, .string ⟨#[]⟩] 86)).1
  have hB := (two_new w (.cells #[.string ⟨#[]⟩, .int .i64 0, .int .i64 0, .int .i64 0, .string ⟨#[]⟩] 86) (.cells #[.string ⟨#[]⟩, .int .i64 0, .int .i64 0, .int .i64 0, .string ⟨#[]⟩] 86)).2
  have hG := grown_alloc2 w (.cells #[.string ⟨#[]⟩, .int .i64 0, .int .i64 0, .int .i64 0, .string ⟨#[]⟩] 86) (.cells #[.string ⟨#[]⟩, .int .i64 0, .int .i64 0, .int .i64 0, .string ⟨#[]⟩] 86) (some R)
  have hR0 : At ((w.alloc (.cells #[.string ⟨#[]⟩, .int .i64 0, .int .i64 0, .int .i64 0, .string ⟨#[]⟩] 86)).alloc (.cells #[.string ⟨#[]⟩, .int .i64 0, .int .i64 0, .int .i64 0, .string ⟨#[]⟩] 86)) R b st :=
    hR.keep ((Below.heap_alloc _ _ _ (by simp; omega)).trans (Below.heap_alloc _ _ _ (by omega)))
  rw [hN] at hA hB
  generalize (w.alloc (.cells #[.string ⟨#[]⟩, .int .i64 0, .int .i64 0, .int .i64 0, .string ⟨#[]⟩] 86)).alloc (.cells #[.string ⟨#[]⟩, .int .i64 0, .int .i64 0, .int .i64 0, .string ⟨#[]⟩] 86) = w0 at *
  have HA := hide hA
  have HB := hide hB
  clear hA hB hR
  refine (name_st R b st _ hb hR0).mono ?_
  rw [unhide e1]
  rintro e w1 ⟨rfl, hAt1, hg1⟩
  obtain ⟨a1, b1, d1, l1, p1⟩ := after_call (o := 0) (.string s) hg1 hAt1 (unhide HA) (unhide HB) (by omega) (by omega) (by omega)
  obtain ⟨⟨x0, x1, x2, x3, x4⟩, y0, y1, y2, y3, y4⟩ := cells5 p1
  have hG1 := grown_own (grown_trans hG hg1) (N + 1) 0 (.string s) (by omega)
  clear p1 hR0 hG hg1 hAt1 HA HB e1
  go_wp2_with fail
  generalize w1.setCell ⟨N + 1, 0, none⟩ (.string s) = w2 at *
  clear x0 x1 x2 x3 x4 y0 y1 y2 y3 y4 l1 w1
  refine (number_st R b st1 2 _ hb a1 (by omega) (by omega)).mono ?_
  rw [show (2 : Int).toNat = 2 from rfl, unhide e2]
  rintro e w1 ⟨rfl, hAt1, hg1⟩
  obtain ⟨a2, b2, d2, l2, p2⟩ := after_call (o := 1) (.int .i64 ty) hg1 hAt1 b1 d1 (by omega) (by omega) (by omega)
  obtain ⟨⟨x0, x1, x2, x3, x4⟩, y0, y1, y2, y3, y4⟩ := cells5 p2
  have hG2 := grown_own (grown_trans hG1 hg1) (N + 1) 1 (.int .i64 ty) (by omega)
  clear a1 b1 d1 hG1 hg1 hAt1 e2 p2
  go_wp2_with fail
  generalize w1.setCell ⟨N + 1, 1, none⟩ (.int .i64 ty) = w3 at *
  clear x0 x1 x2 x3 x4 y0 y1 y2 y3 y4 l2 w1 w2
  refine (number_st R b st2 2 _ hb a2 (by omega) (by omega)).mono ?_
  rw [show (2 : Int).toNat = 2 from rfl, unhide e3]
  rintro e w1 ⟨rfl, hAt1, hg1⟩
  obtain ⟨a3, b3, d3, l3, p3⟩ := after_call (o := 2) (.int .i64 cl) hg1 hAt1 b2 d2 (by omega) (by omega) (by omega)
  obtain ⟨⟨x0, x1, x2, x3, x4⟩, y0, y1, y2, y3, y4⟩ := cells5 p3
  have hG3 := grown_own (grown_trans hG2 hg1) (N + 1) 2 (.int .i64 cl) (by omega)
  clear a2 b2 d2 hG2 hg1 hAt1 e3 p3
  go_wp2_with fail
  generalize w1.setCell ⟨N + 1, 2, none⟩ (.int .i64 cl) = w4 at *
  clear x0 x1 x2 x3 x4 y0 y1 y2 y3 y4 l3 w1 w3
  refine (number_st R b st3 4 _ hb a3 (by omega) (by omega)).mono ?_
  rw [show (4 : Int).toNat = 4 from rfl, unhide e4]
  rintro e w1 ⟨rfl, hAt1, hg1⟩
  obtain ⟨a4, b4, d4, l4, p4⟩ := after_call (o := 3) (.int .i64 ttl) hg1 hAt1 b3 d3 (by omega) (by omega) (by omega)
  obtain ⟨⟨x0, x1, x2, x3, x4⟩, y0, y1, y2, y3, y4⟩ := cells5 p4
  have hG4 := grown_own (grown_trans hG3 hg1) (N + 1) 3 (.int .i64 ttl) (by omega)
  have d4' : (w1.setCell ⟨N + 1, 3, none⟩ (.int .i64 ttl)).heap[N + 1]? = some (.cells #[.string s, .int .i64 ty, .int .i64 cl, .int .i64 ttl, .string ⟨#[]⟩] 86 (0, 0)) := d4
  obtain ⟨⟨u0, u1, u2, u3, u4⟩, v0, v1, v2, v3, v4⟩ := cells5 d4'
  clear a3 b3 d3 hG3 hg1 hAt1 e4 p4
  go_wp2_with fail
  generalize w1.setCell ⟨N + 1, 3, none⟩ (.int .i64 ttl) = w5 at *
  clear x0 x1 x2 x3 x4 y0 y1 y2 y3 y4 l4 w1 w4 u0 u1 u2 u3 u4 v0 v1 v2 v3 v4
  refine (data_st R b st4 ty _ hb a4 (by omega)).mono ?_
  rw [Int.toNat_natCast, unhide e5]
  rintro e w1 ⟨rfl, hAt1, hg1⟩
  obtain ⟨a5, b5, d5, l5, p5⟩ := after_call (o := 4) (.string d) hg1 hAt1 b4 d4' (by omega) (by omega) (by omega)
  obtain ⟨⟨x0, x1, x2, x3, x4⟩, y0, y1, y2, y3, y4⟩ := cells5 p5
  have hG5 := grown_own (grown_trans hG4 hg1) (N + 1) 4 (.string d) (by omega)
  obtain ⟨⟨u0, u1, u2, u3, u4⟩, v0, v1, v2, v3, v4⟩ := cells5 b5
  obtain ⟨⟨q0, q1, q2, q3, q4⟩, o0, o1, o2, o3, o4⟩ := cells5 (show (w1.setCell ⟨N + 1, 4, none⟩ (.string d)).heap[N + 1]? = some (.cells #[.string s, .int .i64 ty, .int .i64 cl, .int .i64 ttl, .string d] 86 (0, 0)) from d5)
  clear a4 b4 d4 d4' hG4 hg1 hAt1 e5 p5
  go_wp2_with fail
  generalize w1.setCell ⟨N + 1, 4, none⟩ (.string d) = wz at *
  obtain ⟨⟨g0, g1, g2, g3, g4⟩, _⟩ := cells5 (store5 b5 (.string s) (.int .i64 ty) (.int .i64 cl) (.int .i64 ttl) (.string d))
  refine bodyPost_ret (v := .agg #[.string s, .int .i64 ty, .int .i64 cl, .int .i64 ttl, .string d]) (by simp [results, Try.results158, go_sem, g0, g1, g2, g3, g4]) rfl ⟨rfl, ?_, ?_⟩
  · exact a5.keep ((blk_set_other (by omega) _ _).trans ((blk_set_other (by omega) _ _).trans ((blk_set_other (by omega) _ _).trans ((blk_set_other (by omega) _ _).trans (blk_set_other (by omega) _ _)))))
  · exact grown_own (grown_own (grown_own (grown_own (grown_own hG5 N 0 _ (by omega)) N 1 _ (by omega)) N 2 _ (by omega)) N 3 _ (by omega)) N 4 _ (by omega)

end Go.Proofs.Ytdhobdmhnocbgaa
