/-
  Walks: the wire's Parse, the zone's Parse.
-/
/-
  Walks: the wire's Parse, the zone's Parse.
-/
import Derived.Test.YtdhobdmhnocbgaaGreatSMsgW
namespace Go.Proofs.YtdhobdmhnocbgaaGreat
open Go.RowKit Zr

/-- A message in memory: its four lists are rows of the call's own, each for itself. -/
def MsgIs (w' : World) (N : Nat) (v : Value) (m : Msg) : Prop :=
  ∃ a1 c1 a2 c2 a3 c3 a4 c4, v = .agg #[.int .i64 m.id, .int .i64 m.flags, .slice a1 m.q.length c1, .slice a2 m.a.length c2, .slice a3 m.u.length c3, .slice a4 m.x.length c4] ∧
    w'.ownsRow N 60 3 (.slice a1 m.q.length c1) m.q.length (qcells m.q) ∧ w'.ownsRow N 42 5 (.slice a2 m.a.length c2) m.a.length (rcells m.a) ∧
    w'.ownsRow N 42 5 (.slice a3 m.u.length c3) m.u.length (rcells m.u) ∧ w'.ownsRow N 42 5 (.slice a4 m.x.length c4) m.x.length (rcells m.x) ∧
    Apart (.slice a1 m.q.length c1) (.slice a2 m.a.length c2) ∧ Apart (.slice a1 m.q.length c1) (.slice a3 m.u.length c3) ∧ Apart (.slice a1 m.q.length c1) (.slice a4 m.x.length c4) ∧
    Apart (.slice a2 m.a.length c2) (.slice a3 m.u.length c3) ∧ Apart (.slice a2 m.a.length c2) (.slice a4 m.x.length c4) ∧ Apart (.slice a3 m.u.length c3) (.slice a4 m.x.length c4)

def noMsg : Msg := ⟨0, 0, [], [], [], []⟩
def noVal : Value := .agg #[.int .i64 0, .int .i64 0, .slice none 0 0, .slice none 0 0, .slice none 0 0, .slice none 0 0]

theorem noMsg_is (w : World) (N : Nat) : MsgIs w N noVal noMsg :=
  ⟨none, 0, none, 0, none, 0, none, 0, rfl, World.ownsRow_nil _ _ _ _, World.ownsRow_nil _ _ _ _, World.ownsRow_nil _ _ _ _, World.ownsRow_nil _ _ _ _,
    fun g h => by simp [Value.ownBlock] at h, fun g h => by simp [Value.ownBlock] at h, fun g h => by simp [Value.ownBlock] at h, fun g h => by simp [Value.ownBlock] at h, fun g h => by simp [Value.ownBlock] at h, fun g h => by simp [Value.ownBlock] at h⟩

/-- What is read from the front, and where it ends. -/
def msgP (b : ByteArray) : Except Int (Msg × Nat) :=
  if b.size < 12 then .error 2
  else match qsTo b 12 (num b 4 2) with
    | .error e => .error e
    | .ok (q, p1) => match rcTo b 0 p1 (num b 6 2) with
      | .error e => .error e
      | .ok (a, p2) => match rcTo b 1 p2 (num b 8 2) with
        | .error e => .error e
        | .ok (u, p3) => match rcTo b 2 p3 (num b 10 2) with
          | .error e => .error e
          | .ok (x, p4) => .ok (⟨num b 0 2, num b 2 2, q, a, u, x⟩, p4)

theorem parseP_eq (b : ByteArray) (h : b.size ≤ 65535) : parseP b = match msgP b with
    | .error e => .error e
    | .ok (m, p) => if p ≠ b.size then .error 6 else .ok m := by
  unfold parseP msgP
  rw [if_neg (by omega)]
  by_cases c : b.size < 12
  · rw [if_pos c, if_pos c]
  · rw [if_neg c, if_neg c]
    cases qsTo b 12 (num b 4 2) with
    | error e => rfl
    | ok z =>
      obtain ⟨q, p1⟩ := z
      simp only
      cases rcTo b 0 p1 (num b 6 2) with
      | error e => rfl
      | ok z =>
        obtain ⟨a, p2⟩ := z
        simp only
        cases rcTo b 1 p2 (num b 8 2) with
        | error e => rfl
        | ok z =>
          obtain ⟨u, p3⟩ := z
          simp only
          cases rcTo b 2 p3 (num b 10 2) with
          | error e => rfl
          | ok z => rfl

theorem numSt_le (b : ByteArray) (st : Except Int Nat) : (numSt b st 2).2 ≤ 65535 := by
  cases st with
  | error x => exact Nat.zero_le _
  | ok p =>
    unfold numSt
    simp only
    split
    · have := num_lt2 b p; simp only; omega
    · exact Nat.zero_le _

theorem or_first {p q r : Prop} (h : p ∨ (q ∧ r)) : p ∨ q := by
  rcases h with h | ⟨h, _⟩
  · exact .inl h
  · exact .inr h

/-- The six numbers, where there are too few bytes for them. -/
theorem head_short (b : ByteArray) (h : b.size < 12) :
    (numSt b (numSt b (numSt b (numSt b (numSt b (numSt b (.ok 0) 2).1 2).1 2).1 2).1 2).1 2).1 = .error 2 := by
  have step : ∀ (k : Nat) (st : Except Int Nat), (st = .error 2 ∨ st = .ok k) → ((numSt b st 2).1 = .error 2 ∨ ((numSt b st 2).1 = .ok (k + 2) ∧ k + 2 ≤ b.size)) := by
    intro k st hst
    rcases hst with rfl | rfl
    · exact .inl rfl
    · by_cases c : k + 2 ≤ b.size
      · exact .inr ⟨by rw [numSt_ok b k 2 c], c⟩
      · exact .inl (by rw [numSt_no b k 2 c])
  have s1 := step 0 (.ok 0) (.inr rfl)
  have s2 := step 2 _ (or_first s1)
  have s3 := step 4 _ (or_first s2)
  have s4 := step 6 _ (or_first s3)
  have s5 := step 8 _ (or_first s4)
  have s6 := step 10 _ (or_first s5)
  rcases s6 with s6 | ⟨_, s6⟩
  · exact s6
  · omega

/-- What the method leaves. -/
def MsgDone (R N : Nat) (b : ByteArray) (w : World) (e : Ending) (w' : World) : Prop :=
  w.grownBy w' (some R) ∧ ∃ i f a1 m1 c1 a2 m2 c2 a3 m3 c3 a4 m4 c4, e = .returned (.agg #[.int .i64 i, .int .i64 f, .slice a1 m1 c1, .slice a2 m2 c2, .slice a3 m3 c3, .slice a4 m4 c4]) ∧
    ((∃ m p, msgP b = .ok (m, p) ∧ At w' R b (.ok p) ∧ MsgIs w' N (.agg #[.int .i64 i, .int .i64 f, .slice a1 m1 c1, .slice a2 m2 c2, .slice a3 m3 c3, .slice a4 m4 c4]) m) ∨ (∃ x, msgP b = .error x ∧ At w' R b (.error x)))

theorem message_done (R : Nat) (b : ByteArray) (w : World) (hb : b.size ≤ 65535) (hR : At w R b (.ok 0)) :
    Calls Tryz.prog 75 #[.pointer (some ⟨R, 0, none⟩)] w fun e w' => MsgDone R w.heap.size b w e w' := by
  by_cases c : b.size < 12
  · have hs := head_short b c
    obtain ⟨s1, id, e1⟩ : ∃ s v, numSt b (.ok 0) 2 = (s, v) := ⟨_, _, rfl⟩
    rw [e1] at hs
    obtain ⟨s2, fl, e2⟩ : ∃ s v, numSt b s1 2 = (s, v) := ⟨_, _, rfl⟩
    simp only at hs
    rw [e2] at hs
    obtain ⟨s3, n1, e3⟩ : ∃ s v, numSt b s2 2 = (s, v) := ⟨_, _, rfl⟩
    simp only at hs
    rw [e3] at hs
    obtain ⟨s4, n2, e4⟩ : ∃ s v, numSt b s3 2 = (s, v) := ⟨_, _, rfl⟩
    simp only at hs
    rw [e4] at hs
    obtain ⟨s5, n3, e5⟩ : ∃ s v, numSt b s4 2 = (s, v) := ⟨_, _, rfl⟩
    simp only at hs
    rw [e5] at hs
    obtain ⟨s6, n4, e6⟩ : ∃ s v, numSt b s5 2 = (s, v) := ⟨_, _, rfl⟩
    simp only at hs
    rw [e6] at hs
    simp only at hs
    subst hs
    have l1 := numSt_le b s2
    have l2 := numSt_le b s3
    have l3 := numSt_le b s4
    have l4 := numSt_le b s5
    rw [e3] at l1
    rw [e4] at l2
    rw [e5] at l3
    rw [e6] at l4
    refine (message_walk R b (.ok 0) s1 s2 s3 s4 s5 (.error 2) id fl n1 n2 n3 n4 w hb hR e1 e2 e3 e4 e5 e6 l1 l2 l3 l4 (.error 2) (.error 2) (.error 2) (.error 2) rfl rfl rfl rfl).mono ?_
    rintro e w' ⟨h1, h2, a1, m1, c1, d1, a2, m2, c2, d2, a3, m3, c3, d3, a4, m4, c4, d4, h3, _⟩
    exact ⟨h1, _, _, _, _, _, _, _, _, _, _, _, _, _, _, h3, .inr ⟨2, by unfold msgP; rw [if_pos c], h2⟩⟩
  · have e1 : numSt b (.ok 0) 2 = (.ok 2, num b 0 2) := numSt_ok b 0 2 (by omega)
    have e2 : numSt b (.ok 2) 2 = (.ok 4, num b 2 2) := numSt_ok b 2 2 (by omega)
    have e3 : numSt b (.ok 4) 2 = (.ok 6, num b 4 2) := numSt_ok b 4 2 (by omega)
    have e4 : numSt b (.ok 6) 2 = (.ok 8, num b 6 2) := numSt_ok b 6 2 (by omega)
    have e5 : numSt b (.ok 8) 2 = (.ok 10, num b 8 2) := numSt_ok b 8 2 (by omega)
    have e6 : numSt b (.ok 10) 2 = (.ok 12, num b 10 2) := numSt_ok b 10 2 (by omega)
    have l4 := num_lt2 b 4
    have l6 := num_lt2 b 6
    have l8 := num_lt2 b 8
    have l10 := num_lt2 b 10
    refine (message_walk R b (.ok 0) _ _ _ _ _ _ _ _ _ _ _ _ w hb hR e1 e2 e3 e4 e5 e6 (by omega) (by omega) (by omega) (by omega) _ _ _ _ rfl rfl rfl rfl).mono ?_
    rintro e w' ⟨h1, h2, a1, m1, c1, d1, a2, m2, c2, d2, a3, m3, c3, d3, a4, m4, c4, d4, h3, o1, r1, o2, r2, o3, r3, o4, r4, ap⟩
    refine ⟨h1, _, _, _, _, _, _, _, _, _, _, _, _, _, _, h3, ?_⟩
    clear h3
    unfold msgP
    rw [if_neg c]
    simp only [qsSt] at h2 r1 r2 r3 r4
    cases hq : qsTo b 12 (num b 4 2) with
    | error x =>
      rw [hq] at h2
      exact .inr ⟨x, rfl, h2⟩
    | ok z =>
      obtain ⟨q, p1⟩ := z
      simp only [hq, stOfQ, rcSt] at h2 r2 r3 r4 ⊢
      obtain ⟨rfl, rfl⟩ := r1 q p1 hq
      cases ha : rcTo b 0 p1 (num b 6 2) with
      | error x =>
        rw [ha] at h2
        exact .inr ⟨x, rfl, h2⟩
      | ok z =>
        obtain ⟨a, p2⟩ := z
        simp only [ha, stOfR] at h2 r3 r4 ⊢
        obtain ⟨rfl, rfl⟩ := r2 a p2 ha
        cases hu : rcTo b 1 p2 (num b 8 2) with
        | error x =>
          rw [hu] at h2
          exact .inr ⟨x, rfl, h2⟩
        | ok z =>
          obtain ⟨u, p3⟩ := z
          simp only [hu] at h2 r4 ⊢
          obtain ⟨rfl, rfl⟩ := r3 u p3 hu
          cases hx : rcTo b 2 p3 (num b 10 2) with
          | error x =>
            rw [hx] at h2
            exact .inr ⟨x, rfl, h2⟩
          | ok z =>
            obtain ⟨x, p4⟩ := z
            simp only [hx] at h2 ⊢
            obtain ⟨rfl, rfl⟩ := r4 x p4 hx
            exact .inl ⟨_, p4, rfl, h2, a1, c1, a2, c2, a3, c3, a4, c4, rfl, o1, o2, o3, o4, ap⟩

end Go.Proofs.YtdhobdmhnocbgaaGreat

namespace Go.Proofs.YtdhobdmhnocbgaaGreat
open Go.RowKit Zr

def errOf (r : Except Int Msg) : Int := match r with
  | .ok _ => 0
  | .error x => x
def msgOf (r : Except Int Msg) : Msg := match r with
  | .ok m => m
  | .error _ => noMsg

/-- What a Parse leaves. -/
def Parsed (N : Nat) (w : World) (r : Except Int Msg) (e : Ending) (w' : World) : Prop :=
  ∃ v, e = .returned (.tuple #[v, .int .i64 (errOf r)]) ∧ MsgIs w' N v (msgOf r) ∧ Below N w w'

theorem parsed_no {N : Nat} {w w' : World} (x : Int) (h : Below N w w') : Parsed N w (.error x) (.returned (.tuple #[noVal, .int .i64 x])) w' := ⟨noVal, rfl, noMsg_is _ _, h⟩

theorem below_set6 {B : Nat} {a w : World} {P : Nat} (h : Below B a w) (hP : B ≤ P) (v0 v1 v2 v3 v4 v5 : Value) :
    Below B a ((((((w.setCell ⟨P, 0, none⟩ v0).setCell ⟨P, 1, none⟩ v1).setCell ⟨P, 2, none⟩ v2).setCell ⟨P, 3, none⟩ v3).setCell ⟨P, 4, none⟩ v4).setCell ⟨P, 5, none⟩ v5) :=
  (((((h.setCell hP _).setCell hP _).setCell hP _).setCell hP _).setCell hP _).setCell hP _

/-- A message's box filled, a block laid behind it: what the box reads as. -/
theorem box_filled {w : World} {P : Nat} {x0 x1 x2 x3 x4 x5 : Value} {t : TypeId} (h : w.heap[P]? = some (.cells #[x0, x1, x2, x3, x4, x5] t (0, 0))) (v0 v1 v2 v3 v4 v5 : Value) (o : Obj) :
    (((((((w.setCell ⟨P, 0, none⟩ v0).setCell ⟨P, 1, none⟩ v1).setCell ⟨P, 2, none⟩ v2).setCell ⟨P, 3, none⟩ v3).setCell ⟨P, 4, none⟩ v4).setCell ⟨P, 5, none⟩ v5).alloc o).heap[P]? = some (.cells #[v0, v1, v2, v3, v4, v5] t (0, 0)) := by
  have h1 := store6 h v0 v1 v2 v3 v4 v5
  rw [Below.heap_alloc _ _ _ (blk_lt h1)]
  exact h1
theorem below_filled {B : Nat} {a w : World} {P : Nat} (h : Below B a w) (hP : B ≤ P) (hB : B ≤ w.heap.size) (v0 v1 v2 v3 v4 v5 : Value) (o : Obj) :
    Below B a (((((((w.setCell ⟨P, 0, none⟩ v0).setCell ⟨P, 1, none⟩ v1).setCell ⟨P, 2, none⟩ v2).setCell ⟨P, 3, none⟩ v3).setCell ⟨P, 4, none⟩ v4).setCell ⟨P, 5, none⟩ v5).alloc o) :=
  Below.alloc (below_set6 h hP _ _ _ _ _ _) (by simp only [size_set]; exact hB) _

set_option maxHeartbeats 1000000 in
theorem wireParse_any (b : ByteArray) (w : World) (hm : b.size ≤ maxLen) :
    Calls Tryz.prog 40 #[.string b] w fun e w' => Parsed w.heap.size w (parseP b) e w' := by
  unfold maxLen at hm
  generalize hN : w.heap.size = N
  by_cases c : 65535 < b.size
  · have HP : Hid (parseP b = .error 1) := by show _ = _; unfold parseP; rw [if_pos c]
    go_enter Tryz.func40, Tryz.ntmps40
    go_wp2_with fail
    have hA : (w.alloc msg0).heap[N]? = some msg0 := by rw [← hN]; exact heap_alloc_new _ _
    unfold msg0 at hA
    obtain ⟨⟨g0, g1, g2, g3, g4, g5⟩, _⟩ := cells6 hA
    refine bodyPost_ret (v := .tuple #[noVal, .int .i64 1]) (by simp [results, Tryz.results40, go_sem, noVal, g0, g1, g2, g3, g4, g5]) rfl ?_
    rw [unhide HP]
    exact parsed_no 1 ((Below.refl _ _).alloc (by omega) _)
  · have hb : b.size ≤ 65535 := by omega
    have HP := hide (parseP_eq b hb)
    go_enter Tryz.func40, Tryz.ntmps40
    go_wp2_with fail
    have hA := (two_new w msg0 (rdr b 0 0)).1
    have hB := (two_new w msg0 (rdr b 0 0)).2
    have hG : Below N w ((w.alloc msg0).alloc (rdr b 0 0)) := ((Below.refl _ _).alloc (by omega) _).alloc (by simp; omega) _
    rw [hN] at hA hB
    unfold msg0 rdr at hA hB hG
    generalize (w.alloc (.cells #[.int .i64 0, .int .i64 0, .slice none 0 0, .slice none 0 0, .slice none 0 0, .slice none 0 0] 32 (0, 0))).alloc (.cells #[.string b, .int .i64 0, .int .i64 0] 114 (0, 0)) = w0 at *
    have HA := hide hA
    have hsz : N + 1 < w0.heap.size := blk_lt hB
    have hB' : At w0 (N + 1) b (.ok 0) := ⟨Nat.zero_le _, hB⟩
    clear hA hB hm c
    refine (message_done (N + 1) b _ hb hB').mono ?_
    rintro e w1 ⟨hg1, i, f, a1, m1, c1, a2, m2, c2, a3, m3, c3, a4, m4, c4, rfl, hcase⟩
    have hb1 : Below N w w1 := below_grown hG hg1 (by omega) (by omega)
    have hA1 := grown_blk hg1 (unhide HA) (by omega)
    obtain ⟨⟨x0, x1, x2, x3, x4, x5⟩, y0, y1, y2, y3, y4, y5⟩ := cells6 hA1
    have hl1 := blk_lt hA1
    have hs1 : N + 1 < w1.heap.size := by have := hg1.size; omega
    have HA1 := hide hA1
    clear hA1 HA hG hB'
    rcases hcase with ⟨m, p, hP, hAt, hM⟩ | ⟨x, hP, hAt⟩
    · obtain ⟨r0, r1, r2, r3, r4, r5⟩ := rdr_cells hAt.2
      by_cases hp : p = b.size
      · have HPx : Hid (parseP b = .ok m) := by show _ = _; rw [unhide HP, hP]; simp only; rw [if_neg (by simp [hp])]
        have hpn : (((p : Int)) != (b.size : Int)) = false := by simp only [bne_eq_false_iff_eq]; omega
        have HM := hide hM
        clear hP hAt HP hp hM
        go_wp2_with fail
        have hf := box_filled (unhide HA1) (.int .i64 i) (.int .i64 f) (.slice a1 m1 c1) (.slice a2 m2 c2) (.slice a3 m3 c3) (.slice a4 m4 c4) (.cells #[.int .i64 i, .int .i64 f, .slice a1 m1 c1, .slice a2 m2 c2, .slice a3 m3 c3, .slice a4 m4 c4] 32)
        obtain ⟨⟨g0, g1, g2, g3, g4, g5⟩, _⟩ := cells6 hf
        refine bodyPost_ret (v := .tuple #[.agg #[.int .i64 i, .int .i64 f, .slice a1 m1 c1, .slice a2 m2 c2, .slice a3 m3 c3, .slice a4 m4 c4], .int .i64 0]) (by simp [results, Tryz.results40, go_sem, g0, g1, g2, g3, g4, g5]) rfl ?_
        rw [unhide HPx]
        refine ⟨_, rfl, ?_, below_filled hb1 (Nat.le_refl _) (by omega) _ _ _ _ _ _ _⟩
        have keep : ∀ {e : TypeId} {size : Nat} {v : Value} {n : Nat} {xs : List Value}, w1.ownsRow w0.heap.size e size v n xs → (((((((w1.setCell ⟨N, 0, none⟩ (.int .i64 i)).setCell ⟨N, 1, none⟩ (.int .i64 f)).setCell ⟨N, 2, none⟩ (.slice a1 m1 c1)).setCell ⟨N, 3, none⟩ (.slice a2 m2 c2)).setCell ⟨N, 4, none⟩ (.slice a3 m3 c3)).setCell ⟨N, 5, none⟩ (.slice a4 m4 c4)).alloc (.cells #[.int .i64 i, .int .i64 f, .slice a1 m1 c1, .slice a2 m2 c2, .slice a3 m3 c3, .slice a4 m4 c4] 32)).ownsRow N e size v n xs := by
          intro e size v n xs h
          refine owns_mono (N := w0.heap.size) ?_ (by omega)
          exact (owns_later (owns_later (owns_later (owns_later (owns_later (owns_later h (grown_set _ N _ _) (by omega)) (grown_set _ N _ _) (by omega)) (grown_set _ N _ _) (by omega)) (grown_set _ N _ _) (by omega)) (grown_set _ N _ _) (by omega)) (grown_set _ N _ _) (by omega)).alloc _
        obtain ⟨k1, k2, k3, k4, k5, k6, k7, k8, kv, o1, o2, o3, o4, ap⟩ := unhide HM
        exact ⟨k1, k2, k3, k4, k5, k6, k7, k8, kv, keep o1, keep o2, keep o3, keep o4, ap⟩
      · have HPx : Hid (parseP b = .error 6) := by show _ = _; rw [unhide HP, hP]; simp only; rw [if_pos hp]
        have hpn : (((p : Int)) != (b.size : Int)) = true := by rw [bne_iff_ne]; omega
        clear hP hAt HP hp hM
        go_wp2_with fail
        have hf := box_filled (unhide HA1) (.int .i64 0) (.int .i64 0) (.slice none 0 0) (.slice none 0 0) (.slice none 0 0) (.slice none 0 0) (.cells #[.int .i64 i, .int .i64 f, .slice a1 m1 c1, .slice a2 m2 c2, .slice a3 m3 c3, .slice a4 m4 c4] 32)
        obtain ⟨⟨g0, g1, g2, g3, g4, g5⟩, _⟩ := cells6 hf
        refine bodyPost_ret (v := .tuple #[noVal, .int .i64 6]) (by simp [results, Tryz.results40, go_sem, noVal, g0, g1, g2, g3, g4, g5]) rfl ?_
        rw [unhide HPx]
        exact parsed_no 6 (below_filled hb1 (Nat.le_refl _) (by omega) _ _ _ _ _ _ _)
    · obtain ⟨af, az⟩ := hAt.fail
      have hx := hAt.failNe
      have hx0 : (x != 0) = true := by rw [bne_iff_ne]; exact hx
      have af' : w1.cell? ⟨N + 1, 2, none⟩ = some (.int .i64 x) := af
      have HPx : Hid (parseP b = .error x) := by show _ = _; rw [unhide HP, hP]
      clear af hP hAt HP hx
      go_wp2_with fail
      go_region_held3 (fun w' => w'.cell? ⟨N + 1, 2, none⟩ = some (.int .i64 x)) (go_keep) (fail)
      go_wp2_with fail
      have hf := box_filled (unhide HA1) (.int .i64 0) (.int .i64 0) (.slice none 0 0) (.slice none 0 0) (.slice none 0 0) (.slice none 0 0) (.cells #[.int .i64 i, .int .i64 f, .slice a1 m1 c1, .slice a2 m2 c2, .slice a3 m3 c3, .slice a4 m4 c4] 32)
      obtain ⟨⟨g0, g1, g2, g3, g4, g5⟩, _⟩ := cells6 hf
      refine bodyPost_ret (v := .tuple #[noVal, .int .i64 x]) (by simp [results, Tryz.results40, go_sem, noVal, g0, g1, g2, g3, g4, g5]) rfl ?_
      rw [unhide HPx]
      exact parsed_no x (below_filled hb1 (Nat.le_refl _) (by omega) _ _ _ _ _ _ _).drew

/-- A message stays what it is while blocks below it are written, and while memory is made. -/
theorem MsgIs.keep {w w' : World} {N : Nat} {v : Value} {m : Msg} (h : MsgIs w N v m) (hk : ∀ {e : TypeId} {size : Nat} {v : Value} {n : Nat} {xs : List Value}, w.ownsRow N e size v n xs → w'.ownsRow N e size v n xs) : MsgIs w' N v m := by
  obtain ⟨k1, k2, k3, k4, k5, k6, k7, k8, kv, o1, o2, o3, o4, ap⟩ := h
  exact ⟨k1, k2, k3, k4, k5, k6, k7, k8, kv, hk o1, hk o2, hk o3, hk o4, ap⟩
theorem MsgIs.mono {w : World} {N N' : Nat} {v : Value} {m : Msg} (h : MsgIs w N v m) (hN : N' ≤ N) : MsgIs w N' v m := by
  obtain ⟨k1, k2, k3, k4, k5, k6, k7, k8, kv, o1, o2, o3, o4, ap⟩ := h
  exact ⟨k1, k2, k3, k4, k5, k6, k7, k8, kv, owns_mono o1 hN, owns_mono o2 hN, owns_mono o3 hN, owns_mono o4 hN, ap⟩
theorem MsgIs.set {w : World} {N : Nat} {v : Value} {m : Msg} (h : MsgIs w N v m) (P o : Nat) (u : Value) (hP : P < N) : MsgIs (w.setCell ⟨P, o, none⟩ u) N v m :=
  h.keep (fun hr => owns_later hr (grown_set _ _ _ _) hP)

end Go.Proofs.YtdhobdmhnocbgaaGreat
