/-
  Walks: the wire's Parse, the zone's Parse.
-/
import Derived.Test.YtdhobdmhnocbgaaQMsgW
namespace Go.Proofs.Ytdhobdmhnocbgaa
open Go.RowKit Zr

/-- A message in memory: its four lists are rows of the call's own, each for itself. -/
def MsgIs (w' : World) (N : Nat) (v : Value) (m : Msg) : Prop :=
  ∃ a1 c1 a2 c2 a3 c3 a4 c4, v = .agg #[.int .i64 m.id, .int .i64 m.flags, .slice a1 m.q.length c1, .slice a2 m.a.length c2, .slice a3 m.u.length c3, .slice a4 m.x.length c4] ∧
    w'.ownsRow N 74 3 (.slice a1 m.q.length c1) m.q.length (qcells m.q) ∧ w'.ownsRow N 86 5 (.slice a2 m.a.length c2) m.a.length (rcells m.a) ∧
    w'.ownsRow N 86 5 (.slice a3 m.u.length c3) m.u.length (rcells m.u) ∧ w'.ownsRow N 86 5 (.slice a4 m.x.length c4) m.x.length (rcells m.x) ∧
    Apart (.slice a1 m.q.length c1) (.slice a2 m.a.length c2) ∧ Apart (.slice a1 m.q.length c1) (.slice a3 m.u.length c3) ∧ Apart (.slice a1 m.q.length c1) (.slice a4 m.x.length c4) ∧
    Apart (.slice a2 m.a.length c2) (.slice a3 m.u.length c3) ∧ Apart (.slice a2 m.a.length c2) (.slice a4 m.x.length c4) ∧ Apart (.slice a3 m.u.length c3) (.slice a4 m.x.length c4)

def noMsg : Msg := ⟨0, 0, [], [], [], []⟩
def noVal : Value := .agg #[.int .i64 0, .int .i64 0, .slice none 0 0, .slice none 0 0, .slice none 0 0, .slice none 0 0]

theorem noMsg_is (w : World) (N : Nat) : MsgIs w N noVal noMsg :=
  ⟨none, 0, none, 0, none, 0, none, 0, rfl, World.ownsRow_nil _ _ _ _, World.ownsRow_nil _ _ _ _, World.ownsRow_nil _ _ _ _, World.ownsRow_nil _ _ _ _,
    fun g h => by simp [Value.ownBlock] at h, fun g h => by simp [Value.ownBlock] at h, fun g h => by simp [Value.ownBlock] at h, fun g h => by simp [Value.ownBlock] at h, fun g h => by simp [Value.ownBlock] at h, fun g h => by simp [Value.ownBlock] at h⟩

/-- What is read from the front, and where it ends. -/
def msgP (b : ByteArray) : Except Int (Msg × Nat) :=
  if b.size < 12 then .error 2
  else match qsTo b 12 (num b 4 2) with
    | .error e => .error e
    | .ok (q, p1) => match rcTo b 0 p1 (num b 6 2) with
      | .error e => .error e
      | .ok (a, p2) => match rcTo b 1 p2 (num b 8 2) with
        | .error e => .error e
        | .ok (u, p3) => match rcTo b 2 p3 (num b 10 2) with
          | .error e => .error e
          | .ok (x, p4) => .ok (⟨num b 0 2, num b 2 2, q, a, u, x⟩, p4)

theorem parseP_eq (b : ByteArray) (h : b.size ≤ 65535) : parseP b = match msgP b with
    | .error e => .error e
    | .ok (m, p) => if p ≠ b.size then .error 6 else .ok m := by
  unfold parseP msgP
  rw [if_neg (by omega)]
  by_cases c : b.size < 12
  · rw [if_pos c, if_pos c]
  · rw [if_neg c, if_neg c]
    cases qsTo b 12 (num b 4 2) with
    | error e => rfl
    | ok z =>
      obtain ⟨q, p1⟩ := z
      simp only
      cases rcTo b 0 p1 (num b 6 2) with
      | error e => rfl
      | ok z =>
        obtain ⟨a, p2⟩ := z
        simp only
        cases rcTo b 1 p2 (num b 8 2) with
        | error e => rfl
        | ok z =>
          obtain ⟨u, p3⟩ := z
          simp only
          cases rcTo b 2 p3 (num b 10 2) with
          | error e => rfl
          | ok z => rfl

theorem numSt_le (b : ByteArray) (st : Except Int Nat) : (numSt b st 2).2 ≤ 65535 := by
  cases st with
  | error x => exact Nat.zero_le _
  | ok p =>
    unfold numSt
    simp only
    split
    · have := num_lt2 b p; simp only; omega
    · exact Nat.zero_le _

theorem numSt_short (b : ByteArray) (st : Except Int Nat) (n : Nat) (h : st = .error 2 ∨ ∃ p, st = .ok p ∧ b.size < p + n) : (numSt b st n).1 = .error 2 := by
  rcases h with rfl | ⟨p, rfl, h⟩
  · rfl
  · rw [numSt_no b p n (by omega)]

theorem or_first {p q r : Prop} (h : p ∨ (q ∧ r)) : p ∨ q := by
  rcases h with h | ⟨h, _⟩
  · exact .inl h
  · exact .inr h

/-- The six numbers, where there are too few bytes for them. -/
theorem head_short (b : ByteArray) (h : b.size < 12) :
    (numSt b (numSt b (numSt b (numSt b (numSt b (numSt b (.ok 0) 2).1 2).1 2).1 2).1 2).1 2).1 = .error 2 := by
  have step : ∀ (k : Nat) (st : Except Int Nat), (st = .error 2 ∨ st = .ok k) → ((numSt b st 2).1 = .error 2 ∨ ((numSt b st 2).1 = .ok (k + 2) ∧ k + 2 ≤ b.size)) := by
    intro k st hst
    rcases hst with rfl | rfl
    · exact .inl rfl
    · by_cases c : k + 2 ≤ b.size
      · exact .inr ⟨by rw [numSt_ok b k 2 c], c⟩
      · exact .inl (by rw [numSt_no b k 2 c])
  have s1 := step 0 (.ok 0) (.inr rfl)
  have s2 := step 2 _ (or_first s1)
  have s3 := step 4 _ (or_first s2)
  have s4 := step 6 _ (or_first s3)
  have s5 := step 8 _ (or_first s4)
  have s6 := step 10 _ (or_first s5)
  rcases s6 with s6 | ⟨_, s6⟩
  · exact s6
  · omega

theorem rcSt_err (b : ByteArray) (part : Nat) (x : Int) (n : Nat) : stOfR (rcSt b part (.error x) n) = .error x := rfl

/-- What the method leaves. -/
def MsgDone (R N : Nat) (b : ByteArray) (w : World) (e : Ending) (w' : World) : Prop :=
  w.grownBy w' (some R) ∧ ∃ i f a1 m1 c1 a2 m2 c2 a3 m3 c3 a4 m4 c4, e = .returned (.agg #[.int .i64 i, .int .i64 f, .slice a1 m1 c1, .slice a2 m2 c2, .slice a3 m3 c3, .slice a4 m4 c4]) ∧
    ((∃ m p, msgP b = .ok (m, p) ∧ At w' R b (.ok p) ∧ MsgIs w' N (.agg #[.int .i64 i, .int .i64 f, .slice a1 m1 c1, .slice a2 m2 c2, .slice a3 m3 c3, .slice a4 m4 c4]) m) ∨ (∃ x, msgP b = .error x ∧ At w' R b (.error x)))

theorem message_done (R : Nat) (b : ByteArray) (w : World) (hb : b.size ≤ 65535) (hR : At w R b (.ok 0)) :
    Calls Try.prog 94 #[.pointer (some ⟨R, 0, none⟩)] w fun e w' => MsgDone R w.heap.size b w e w' := by
  by_cases c : b.size < 12
  · have hs := head_short b c
    obtain ⟨s1, id, e1⟩ : ∃ s v, numSt b (.ok 0) 2 = (s, v) := ⟨_, _, rfl⟩
    rw [e1] at hs
    obtain ⟨s2, fl, e2⟩ : ∃ s v, numSt b s1 2 = (s, v) := ⟨_, _, rfl⟩
    simp only at hs
    rw [e2] at hs
    obtain ⟨s3, n1, e3⟩ : ∃ s v, numSt b s2 2 = (s, v) := ⟨_, _, rfl⟩
    simp only at hs
    rw [e3] at hs
    obtain ⟨s4, n2, e4⟩ : ∃ s v, numSt b s3 2 = (s, v) := ⟨_, _, rfl⟩
    simp only at hs
    rw [e4] at hs
    obtain ⟨s5, n3, e5⟩ : ∃ s v, numSt b s4 2 = (s, v) := ⟨_, _, rfl⟩
    simp only at hs
    rw [e5] at hs
    obtain ⟨s6, n4, e6⟩ : ∃ s v, numSt b s5 2 = (s, v) := ⟨_, _, rfl⟩
    simp only at hs
    rw [e6] at hs
    simp only at hs
    subst hs
    have l1 := numSt_le b s2
    have l2 := numSt_le b s3
    have l3 := numSt_le b s4
    have l4 := numSt_le b s5
    rw [e3] at l1
    rw [e4] at l2
    rw [e5] at l3
    rw [e6] at l4
    refine (message_walk R b (.ok 0) s1 s2 s3 s4 s5 (.error 2) id fl n1 n2 n3 n4 w hb hR e1 e2 e3 e4 e5 e6 l1 l2 l3 l4 (.error 2) (.error 2) (.error 2) (.error 2) rfl rfl rfl rfl).mono ?_
    rintro e w' ⟨h1, h2, a1, m1, c1, d1, a2, m2, c2, d2, a3, m3, c3, d3, a4, m4, c4, d4, h3, _⟩
    exact ⟨h1, _, _, _, _, _, _, _, _, _, _, _, _, _, _, h3, .inr ⟨2, by unfold msgP; rw [if_pos c], h2⟩⟩
  · have e1 : numSt b (.ok 0) 2 = (.ok 2, num b 0 2) := numSt_ok b 0 2 (by omega)
    have e2 : numSt b (.ok 2) 2 = (.ok 4, num b 2 2) := numSt_ok b 2 2 (by omega)
    have e3 : numSt b (.ok 4) 2 = (.ok 6, num b 4 2) := numSt_ok b 4 2 (by omega)
    have e4 : numSt b (.ok 6) 2 = (.ok 8, num b 6 2) := numSt_ok b 6 2 (by omega)
    have e5 : numSt b (.ok 8) 2 = (.ok 10, num b 8 2) := numSt_ok b 8 2 (by omega)
    have e6 : numSt b (.ok 10) 2 = (.ok 12, num b 10 2) := numSt_ok b 10 2 (by omega)
    have l4 := num_lt2 b 4
    have l6 := num_lt2 b 6
    have l8 := num_lt2 b 8
    have l10 := num_lt2 b 10
    refine (message_walk R b (.ok 0) _ _ _ _ _ _ _ _ _ _ _ _ w hb hR e1 e2 e3 e4 e5 e6 (by omega) (by omega) (by omega) (by omega) _ _ _ _ rfl rfl rfl rfl).mono ?_
    rintro e w' ⟨h1, h2, a1, m1, c1, d1, a2, m2, c2, d2, a3, m3, c3, d3, a4, m4, c4, d4, h3, o1, r1, o2, r2, o3, r3, o4, r4, ap⟩
    refine ⟨h1, _, _, _, _, _, _, _, _, _, _, _, _, _, _, h3, ?_⟩
    clear h3
    unfold msgP
    rw [if_neg c]
    simp only [qsSt] at h2 r1 r2 r3 r4
    cases hq : qsTo b 12 (num b 4 2) with
    | error x =>
      rw [hq] at h2
      exact .inr ⟨x, rfl, h2⟩
    | ok z =>
      obtain ⟨q, p1⟩ := z
      simp only [hq, stOfQ, rcSt] at h2 r2 r3 r4 ⊢
      obtain ⟨rfl, rfl⟩ := r1 q p1 hq
      cases ha : rcTo b 0 p1 (num b 6 2) with
      | error x =>
        rw [ha] at h2
        exact .inr ⟨x, rfl, h2⟩
      | ok z =>
        obtain ⟨a, p2⟩ := z
        simp only [ha, stOfR] at h2 r3 r4 ⊢
        obtain ⟨rfl, rfl⟩ := r2 a p2 ha
        cases hu : rcTo b 1 p2 (num b 8 2) with
        | error x =>
          rw [hu] at h2
          exact .inr ⟨x, rfl, h2⟩
        | ok z =>
          obtain ⟨u, p3⟩ := z
          simp only [hu] at h2 r4 ⊢
          obtain ⟨rfl, rfl⟩ := r3 u p3 hu
          cases hx : rcTo b 2 p3 (num b 10 2) with
          | error x =>
            rw [hx] at h2
            exact .inr ⟨x, rfl, h2⟩
          | ok z =>
            obtain ⟨x, p4⟩ := z
            simp only [hx] at h2 ⊢
            obtain ⟨rfl, rfl⟩ := r4 x p4 hx
            exact .inl ⟨_, p4, rfl, h2, a1, c1, a2, c2, a3, c3, a4, c4, rfl, o1, o2, o3, o4, ap⟩

end Go.Proofs.Ytdhobdmhnocbgaa
