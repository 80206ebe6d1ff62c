/-
  Walks: the wire's Parse, the zone's Parse.
-/
import Derived.Test.YtdhobdmhnocbgaaQParseW
namespace Go.Proofs.Ytdhobdmhnocbgaa
open Go.RowKit Zr

def errOf (r : Except Int Msg) : Int := match r with
  | .ok _ => 0
  | .error x => x
def msgOf (r : Except Int Msg) : Msg := match r with
  | .ok m => m
  | .error _ => noMsg

/-- What a Parse leaves. -/
def Parsed (N : Nat) (w : World) (r : Except Int Msg) (e : Ending) (w' : World) : Prop :=
  ∃ v, e = .returned (.tuple #[v, .int .i64 (errOf r)]) ∧ MsgIs w' N v (msgOf r) ∧ Below N w w'

theorem parsed_no {N : Nat} {w w' : World} (x : Int) (h : Below N w w') : Parsed N w (.error x) (.returned (.tuple #[noVal, .int .i64 x])) w' := ⟨noVal, rfl, noMsg_is _ _, h⟩

theorem below_set6 {B : Nat} {a w : World} {P : Nat} (h : Below B a w) (hP : B ≤ P) (v0 v1 v2 v3 v4 v5 : Value) :
    Below B a ((((((w.setCell ⟨P, 0, none⟩ v0).setCell ⟨P, 1, none⟩ v1).setCell ⟨P, 2, none⟩ v2).setCell ⟨P, 3, none⟩ v3).setCell ⟨P, 4, none⟩ v4).setCell ⟨P, 5, none⟩ v5) :=
  (((((h.setCell hP _).setCell hP _).setCell hP _).setCell hP _).setCell hP _).setCell hP _

/-- A message's box filled, a block laid behind it: what the box reads as. -/
theorem box_filled {w : World} {P : Nat} {x0 x1 x2 x3 x4 x5 : Value} {t : TypeId} (h : w.heap[P]? = some (.cells #[x0, x1, x2, x3, x4, x5] t (0, 0))) (v0 v1 v2 v3 v4 v5 : Value) (o : Obj) :
    (((((((w.setCell ⟨P, 0, none⟩ v0).setCell ⟨P, 1, none⟩ v1).setCell ⟨P, 2, none⟩ v2).setCell ⟨P, 3, none⟩ v3).setCell ⟨P, 4, none⟩ v4).setCell ⟨P, 5, none⟩ v5).alloc o).heap[P]? = some (.cells #[v0, v1, v2, v3, v4, v5] t (0, 0)) := by
  have h1 := store6 h v0 v1 v2 v3 v4 v5
  rw [Below.heap_alloc _ _ _ (blk_lt h1)]
  exact h1
theorem below_filled {B : Nat} {a w : World} {P : Nat} (h : Below B a w) (hP : B ≤ P) (hB : B ≤ w.heap.size) (v0 v1 v2 v3 v4 v5 : Value) (o : Obj) :
    Below B a (((((((w.setCell ⟨P, 0, none⟩ v0).setCell ⟨P, 1, none⟩ v1).setCell ⟨P, 2, none⟩ v2).setCell ⟨P, 3, none⟩ v3).setCell ⟨P, 4, none⟩ v4).setCell ⟨P, 5, none⟩ v5).alloc o) :=
  Below.alloc (below_set6 h hP _ _ _ _ _ _) (by simp only [size_set]; exact hB) _

set_option maxHeartbeats 1000000 in
theorem wireParse_any (b : ByteArray) (w : World) (hm : b.size ≤ maxLen) :
    Calls Try.prog 53 #[.string b] w fun e w' => Parsed w.heap.size w (parseP b) e w' := by
  unfold maxLen at hm
  generalize hN : w.heap.size = N
  by_cases c : 65535 < b.size
  · have HP : Hid (parseP b = .error 1) := by show _ = _; unfold parseP; rw [if_pos c]
    go_enter Try.func53, Try.ntmps53
    go_wp2_with fail
    have hA : (w.alloc msg0).heap[N]? = some msg0 := by rw [← hN]; exact heap_alloc_new _ _
    unfold msg0 at hA
    obtain ⟨⟨g0, g1, g2, g3, g4, g5⟩, _⟩ := cells6 hA
    refine bodyPost_ret (v := .tuple #[noVal, .int .i64 1]) (by simp [results, Try.results53, go_sem, noVal, g0, g1, g2, g3, g4, g5]) rfl ?_
    rw [unhide HP]
    exact parsed_no 1 ((Below.refl _ _).alloc (by omega) _)
  · have hb : b.size ≤ 65535 := by omega
    have HP := hide (parseP_eq b hb)
    go_enter Try.func53, Try.ntmps53
    go_wp2_with fail
    have hA := (two_new w msg0 (rdr b 0 0)).1
    have hB := (two_new w msg0 (rdr b 0 0)).2
    have hG : Below N w ((w.alloc msg0).alloc (rdr b 0 0)) := ((Below.refl _ _).alloc (by omega) _).alloc (by simp; omega) _
    rw [hN] at hA hB
    unfold msg0 rdr at hA hB hG
    generalize (w.alloc (.cells #[.int .i64 0, .int .i64 0, .slice none 0 0, .slice none 0 0, .slice none 0 0, .slice none 0 0] 25 (0, 0))).alloc (.cells #[.string b, .int .i64 0, .int .i64 0] 123 (0, 0)) = w0 at *
    have HA := hide hA
    have hsz : N + 1 < w0.heap.size := blk_lt hB
    have hB' : At w0 (N + 1) b (.ok 0) := ⟨Nat.zero_le _, hB⟩
    clear hA hB hm c
    refine (message_done (N + 1) b _ hb hB').mono ?_
    rintro e w1 ⟨hg1, i, f, a1, m1, c1, a2, m2, c2, a3, m3, c3, a4, m4, c4, rfl, hcase⟩
    have hb1 : Below N w w1 := below_grown hG hg1 (by omega) (by omega)
    have hA1 := grown_blk hg1 (unhide HA) (by omega)
    obtain ⟨⟨x0, x1, x2, x3, x4, x5⟩, y0, y1, y2, y3, y4, y5⟩ := cells6 hA1
    have hl1 := blk_lt hA1
    have hs1 : N + 1 < w1.heap.size := by have := hg1.size; omega
    have HA1 := hide hA1
    clear hA1 HA hG hB'
    rcases hcase with ⟨m, p, hP, hAt, hM⟩ | ⟨x, hP, hAt⟩
    · obtain ⟨r0, r1, r2, r3, r4, r5⟩ := rdr_cells hAt.2
      by_cases hp : p = b.size
      · have HPx : Hid (parseP b = .ok m) := by show _ = _; rw [unhide HP, hP]; simp only; rw [if_neg (by simp [hp])]
        have hpn : (((p : Int)) != (b.size : Int)) = false := by simp only [bne_eq_false_iff_eq]; omega
        have HM := hide hM
        clear hP hAt HP hp hM
        go_wp2_with fail
        have hf := box_filled (unhide HA1) (.int .i64 i) (.int .i64 f) (.slice a1 m1 c1) (.slice a2 m2 c2) (.slice a3 m3 c3) (.slice a4 m4 c4) (.cells #[.int .i64 i, .int .i64 f, .slice a1 m1 c1, .slice a2 m2 c2, .slice a3 m3 c3, .slice a4 m4 c4] 25)
        obtain ⟨⟨g0, g1, g2, g3, g4, g5⟩, _⟩ := cells6 hf
        refine bodyPost_ret (v := .tuple #[.agg #[.int .i64 i, .int .i64 f, .slice a1 m1 c1, .slice a2 m2 c2, .slice a3 m3 c3, .slice a4 m4 c4], .int .i64 0]) (by simp [results, Try.results53, go_sem, g0, g1, g2, g3, g4, g5]) rfl ?_
        rw [unhide HPx]
        refine ⟨_, rfl, ?_, below_filled hb1 (Nat.le_refl _) (by omega) _ _ _ _ _ _ _⟩
        have keep : ∀ {e : TypeId} {size : Nat} {v : Value} {n : Nat} {xs : List Value}, w1.ownsRow w0.heap.size e size v n xs → (((((((w1.setCell ⟨N, 0, none⟩ (.int .i64 i)).setCell ⟨N, 1, none⟩ (.int .i64 f)).setCell ⟨N, 2, none⟩ (.slice a1 m1 c1)).setCell ⟨N, 3, none⟩ (.slice a2 m2 c2)).setCell ⟨N, 4, none⟩ (.slice a3 m3 c3)).setCell ⟨N, 5, none⟩ (.slice a4 m4 c4)).alloc (.cells #[.int .i64 i, .int .i64 f, .slice a1 m1 c1, .slice a2 m2 c2, .slice a3 m3 c3, .slice a4 m4 c4] 25)).ownsRow N e size v n xs := by
          intro e size v n xs h
          refine owns_mono (N := w0.heap.size) ?_ (by omega)
          exact (owns_later (owns_later (owns_later (owns_later (owns_later (owns_later h (grown_set _ N _ _) (by omega)) (grown_set _ N _ _) (by omega)) (grown_set _ N _ _) (by omega)) (grown_set _ N _ _) (by omega)) (grown_set _ N _ _) (by omega)) (grown_set _ N _ _) (by omega)).alloc _
        obtain ⟨k1, k2, k3, k4, k5, k6, k7, k8, kv, o1, o2, o3, o4, ap⟩ := unhide HM
        exact ⟨k1, k2, k3, k4, k5, k6, k7, k8, kv, keep o1, keep o2, keep o3, keep o4, ap⟩
      · have HPx : Hid (parseP b = .error 6) := by show _ = _; rw [unhide HP, hP]; simp only; rw [if_pos hp]
        have hpn : (((p : Int)) != (b.size : Int)) = true := by rw [bne_iff_ne]; omega
        clear hP hAt HP hp hM
        go_wp2_with fail
        have hf := box_filled (unhide HA1) (.int .i64 0) (.int .i64 0) (.slice none 0 0) (.slice none 0 0) (.slice none 0 0) (.slice none 0 0) (.cells #[.int .i64 i, .int .i64 f, .slice a1 m1 c1, .slice a2 m2 c2, .slice a3 m3 c3, .slice a4 m4 c4] 25)
        obtain ⟨⟨g0, g1, g2, g3, g4, g5⟩, _⟩ := cells6 hf
        refine bodyPost_ret (v := .tuple #[noVal, .int .i64 6]) (by simp [results, Try.results53, go_sem, noVal, g0, g1, g2, g3, g4, g5]) rfl ?_
        rw [unhide HPx]
        exact parsed_no 6 (below_filled hb1 (Nat.le_refl _) (by omega) _ _ _ _ _ _ _)
    · obtain ⟨af, az⟩ := hAt.fail
      have hx := hAt.failNe
      have hx0 : (x != 0) = true := by rw [bne_iff_ne]; exact hx
      have af' : w1.cell? ⟨N + 1, 2, none⟩ = some (.int .i64 x) := af
      have HPx : Hid (parseP b = .error x) := by show _ = _; rw [unhide HP, hP]
      clear af hP hAt HP hx
      go_wp2_with fail
      go_region_held3 (fun w' => w'.cell? ⟨N + 1, 2, none⟩ = some (.int .i64 x)) (go_keep) (fail)
      go_wp2_with fail
      have hf := box_filled (unhide HA1) (.int .i64 0) (.int .i64 0) (.slice none 0 0) (.slice none 0 0) (.slice none 0 0) (.slice none 0 0) (.cells #[.int .i64 i, .int .i64 f, .slice a1 m1 c1, .slice a2 m2 c2, .slice a3 m3 c3, .slice a4 m4 c4] 25)
      obtain ⟨⟨g0, g1, g2, g3, g4, g5⟩, _⟩ := cells6 hf
      refine bodyPost_ret (v := .tuple #[noVal, .int .i64 x]) (by simp [results, Try.results53, go_sem, noVal, g0, g1, g2, g3, g4, g5]) rfl ?_
      rw [unhide HPx]
      exact parsed_no x (below_filled hb1 (Nat.le_refl _) (by omega) _ _ _ _ _ _ _).drew

/-- A message stays what it is while blocks below it are written, and while memory is made. -/
theorem MsgIs.keep {w w' : World} {N : Nat} {v : Value} {m : Msg} (h : MsgIs w N v m) (hk : ∀ {e : TypeId} {size : Nat} {v : Value} {n : Nat} {xs : List Value}, w.ownsRow N e size v n xs → w'.ownsRow N e size v n xs) : MsgIs w' N v m := by
  obtain ⟨k1, k2, k3, k4, k5, k6, k7, k8, kv, o1, o2, o3, o4, ap⟩ := h
  exact ⟨k1, k2, k3, k4, k5, k6, k7, k8, kv, hk o1, hk o2, hk o3, hk o4, ap⟩
theorem MsgIs.mono {w : World} {N N' : Nat} {v : Value} {m : Msg} (h : MsgIs w N v m) (hN : N' ≤ N) : MsgIs w N' v m := by
  obtain ⟨k1, k2, k3, k4, k5, k6, k7, k8, kv, o1, o2, o3, o4, ap⟩ := h
  exact ⟨k1, k2, k3, k4, k5, k6, k7, k8, kv, owns_mono o1 hN, owns_mono o2 hN, owns_mono o3 hN, owns_mono o4 hN, ap⟩
theorem MsgIs.set {w : World} {N : Nat} {v : Value} {m : Msg} (h : MsgIs w N v m) (P o : Nat) (u : Value) (hP : P < N) : MsgIs (w.setCell ⟨P, o, none⟩ u) N v m :=
  h.keep (fun hr => owns_later hr (grown_set _ _ _ _) hP)

set_option maxHeartbeats 1000000 in
theorem zoneParse_any (b : ByteArray) (w : World) (hm : b.size ≤ maxLen) :
    Calls Try.prog 19 #[.string b] w fun e w' => Parsed w.heap.size w (parseP b) e w' := by
  have hc := fun w' => wireParse_any b w' hm
  generalize parseP b = r at hc ⊢
  have Hc := hide hc
  clear hc
  generalize hN : w.heap.size = N
  go_enter Try.func19, Try.ntmps19
  go_wp2_with fail
  have hA : (w.alloc msg0).heap[N]? = some msg0 := by rw [← hN]; exact heap_alloc_new _ _
  have hG : Below N w (w.alloc msg0) := (Below.refl _ _).alloc (by omega) _
  have hS : (w.alloc msg0).heap.size = N + 1 := by simp [hN]
  unfold msg0 at hA hG hS
  generalize w.alloc (.cells #[.int .i64 0, .int .i64 0, .slice none 0 0, .slice none 0 0, .slice none 0 0, .slice none 0 0] 25 (0, 0)) = w0 at *
  refine (unhide Hc w0).mono ?_
  rintro e w1 ⟨v, rfl, hM, hb1⟩
  rw [hS] at hM hb1
  have hA1 := (hb1.block N (by omega)).trans hA
  have hb2 : Below N w w1 := hG.trans (hb1.mono (by omega))
  have hM' := hM
  obtain ⟨a1, c1, a2, c2, a3, c3, a4, c4, rfl, _⟩ := hM'
  obtain ⟨⟨x0, x1, x2, x3, x4, x5⟩, y0, y1, y2, y3, y4, y5⟩ := cells6 hA1
  have hl1 := blk_lt hA1
  have HA1 := hide hA1
  have HM := hide hM
  clear hA hA1 hM hS hG hb1 Hc
  go_wp2_with fail
  have hf := store6 (unhide HA1) (.int .i64 (msgOf r).id) (.int .i64 (msgOf r).flags) (.slice a1 (msgOf r).q.length c1) (.slice a2 (msgOf r).a.length c2) (.slice a3 (msgOf r).u.length c3) (.slice a4 (msgOf r).x.length c4)
  obtain ⟨⟨g0, g1, g2, g3, g4, g5⟩, _⟩ := cells6 hf
  refine bodyPost_ret (v := .tuple #[.agg #[.int .i64 (msgOf r).id, .int .i64 (msgOf r).flags, .slice a1 (msgOf r).q.length c1, .slice a2 (msgOf r).a.length c2, .slice a3 (msgOf r).u.length c3, .slice a4 (msgOf r).x.length c4], .int .i64 (errOf r)]) (by simp [results, Try.results19, go_sem, g0, g1, g2, g3, g4, g5]) rfl ?_
  refine ⟨_, rfl, ?_, below_set6 hb2 (Nat.le_refl _) _ _ _ _ _ _⟩
  exact (((((((unhide HM).set N 0 _ (by omega)).set N 1 _ (by omega)).set N 2 _ (by omega)).set N 3 _ (by omega)).set N 4 _ (by omega)).set N 5 _ (by omega)).mono (by omega)

end Go.Proofs.Ytdhobdmhnocbgaa
