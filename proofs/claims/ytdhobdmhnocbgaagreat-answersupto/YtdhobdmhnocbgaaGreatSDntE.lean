/-
  Walks over zonekeep: two bytes, the name at the front of data, the bytes that spell a name.
-/
/-
  Walks over zonekeep: the bytes that spell a record's data.
-/
/-
  Walks over zonekeep: the bytes that spell records, and a whole message.
-/
/-
  Walks over zonekeep: the bytes that spell a message.
-/
/-
  Walks over zonekeep: a message that is well made is written and read back.
-/
/-
  The plain side: what is read is well made; an error is an error. Walks over zonekeep: begins, Denoted.
-/
import Derived.Test.YtdhobdmhnocbgaaGreatSKeepA
import Derived.Test.YtdhobdmhnocbgaaGreatSRefP
namespace Go.Proofs.YtdhobdmhnocbgaaGreat
open Go.RowKit Zr

end Go.Proofs.YtdhobdmhnocbgaaGreat

namespace Go.Proofs.YtdhobdmhnocbgaaGreat
open Go.RowKit Zr

theorem names_pre (b : ByteArray) (k : Nat) : ∀ e j S P, namesTo b k (j + e) = .ok (S, P) → ∃ s p, namesTo b k j = .ok (s, p) ∧ Pre s S := by
  intro e
  induction e with
  | zero => intro j S P h; exact ⟨S, P, h, Pre.refl _⟩
  | succ e ih =>
    intro j S P h
    rw [← Nat.add_assoc, namesTo] at h
    cases h1 : namesTo b k (j + e) with
    | error x => rw [h1] at h; simp at h
    | ok q =>
      obtain ⟨s0, p0⟩ := q
      rw [h1] at h
      simp only at h
      cases h2 : nameAt b p0 with
      | error x => rw [h2] at h; simp at h
      | ok q2 =>
        obtain ⟨x, u⟩ := q2
        rw [h2] at h
        simp only [Except.ok.injEq, Prod.mk.injEq] at h
        obtain ⟨rfl, _⟩ := h
        obtain ⟨s, p, h3, h4⟩ := ih j s0 p0 h1
        exact ⟨s, p, h3, h4.trans (pre_append _ _)⟩

theorem names_next (b : ByteArray) (k m j : Nat) (hj : j < m) (S : ByteArray) (P : Nat) (h : namesTo b k m = .ok (S, P)) (s : ByteArray) (p : Nat) (h0 : namesTo b k j = .ok (s, p)) :
    ∃ x u, nameAt b p = .ok (x, u) ∧ namesTo b k (j + 1) = .ok (s ++ x, p + u) ∧ Pre (s ++ x) S := by
  obtain ⟨s', q', x, u, h1, h2⟩ := namesTo_ok b k m S P h j hj
  rw [h0] at h1
  simp only [Except.ok.injEq, Prod.mk.injEq] at h1
  obtain ⟨rfl, rfl⟩ := h1
  have h3 : namesTo b k (j + 1) = .ok (s ++ x, p + u) := by rw [namesTo, h0]; simp only; rw [h2]
  obtain ⟨s2, p2, h4, h5⟩ := names_pre b k (m - (j + 1)) (j + 1) S P (by rw [show j + 1 + (m - (j + 1)) = m by omega]; exact h)
  rw [h3] at h4
  simp only [Except.ok.injEq, Prod.mk.injEq] at h4
  obtain ⟨rfl, _⟩ := h4
  exact ⟨x, u, h2, h3, h5⟩

/-- What stands behind the names of data. -/
def TailOk (t : Nat) (r : ByteArray) : Prop :=
  (t = 1 → r.size = 4) ∧ (t = 28 → r.size = 16) ∧ (t = 6 → r.size = 20) ∧ (t = 2 ∨ t = 5 ∨ t = 12 → r.size = 0) ∧ (t = 33 → 7 ≤ r.size ∧ wholeB (r.extract 6 r.size) = true)

theorem wn_shape (b : ByteArray) (k n m more : Nat) (d : ByteArray) (h : wn b k n m more = some d) : ∃ S P, namesTo b k m = .ok (S, P) ∧ P + more = k + n ∧ d = S ++ b.extract P (k + n) := by
  unfold wn at h
  cases h1 : namesTo b k m with
  | error x => rw [h1] at h; simp at h
  | ok q =>
    obtain ⟨S, P⟩ := q
    rw [h1] at h
    simp only at h
    by_cases c : P + more = k + n
    · rw [if_pos c] at h
      simp only [Option.some.injEq] at h
      rw [c] at h
      exact ⟨S, P, rfl, c, h.symm⟩
    · rw [if_neg c] at h; simp at h

theorem ext_sub (s : ByteArray) (k c d : Nat) (hk : k ≤ s.size) (hc : c ≤ d) (hd : k + d ≤ s.size) : (s.extract k s.size).extract c d = s.extract (k + c) (k + d) := by
  have h1 : (s.extract k s.size).size = s.size - k := by rw [ByteArray.size_extract]; omega
  have h2 : ((s.extract k s.size).extract c d).size = d - c := by rw [ByteArray.size_extract, h1]; omega
  have h3 : (s.extract (k + c) (k + d)).size = d - c := by rw [ByteArray.size_extract]; omega
  apply bt_ext
  · rw [h2, h3]
  · intro i hi
    rw [h2] at hi
    rw [bt_ex _ c d i (by omega) (by omega), bt_ex s k s.size (c + i) (by omega) (Nat.le_refl _), bt_ex s (k + c) (k + d) i (by omega) (by omega)]
    congr 1; omega

/-- What stands behind a part that stands at the front. -/
theorem Pre.rest {A x D : ByteArray} (h : Pre (A ++ x) D) : A.size + x.size ≤ D.size ∧ Pre x (D.extract A.size D.size) ∧ (D.extract A.size D.size).extract 0 x.size = x ∧ (D.extract A.size D.size).extract x.size (D.extract A.size D.size).size = D.extract (A ++ x).size D.size := by
  have h1 := h.1
  rw [ByteArray.size_append] at h1
  have hs : (D.extract A.size D.size).size = D.size - A.size := by rw [ByteArray.size_extract]; omega
  refine ⟨h1, ⟨by omega, fun i hi => ?_⟩, ?_, ?_⟩
  · rw [bt_ex _ _ _ i (by omega) (Nat.le_refl _), h.at i hi]
  · rw [ext_sub D A.size 0 x.size (by omega) (by omega) h1, Nat.add_zero]
    exact h.cut
  · rw [hs, ext_sub D A.size x.size (D.size - A.size) (by omega) (by omega) (by omega), ByteArray.size_append, show A.size + (D.size - A.size) = D.size by omega]

end Go.Proofs.YtdhobdmhnocbgaaGreat

namespace Go.Proofs.YtdhobdmhnocbgaaGreat
open Go.RowKit Zr

theorem rc_len (b : ByteArray) (part k : Nat) : ∀ m L P, rcTo b part k m = .ok (L, P) → L.length = m := by
  intro m
  induction m with
  | zero => intro L P h; simp only [rcTo, Except.ok.injEq, Prod.mk.injEq] at h; rw [← h.1]; rfl
  | succ m ih =>
    intro L P h
    rw [rcTo] at h
    cases h1 : rcTo b part k m with
    | error x => rw [h1] at h; simp at h
    | ok q =>
      obtain ⟨l, p⟩ := q
      rw [h1] at h
      simp only at h
      cases h2 : recordAt b p with
      | error x => rw [h2] at h; simp at h
      | ok q2 =>
        obtain ⟨x, p'⟩ := q2
        rw [h2] at h
        simp only at h
        split at h
        · simp at h
        · simp only [Except.ok.injEq, Prod.mk.injEq] at h
          rw [← h.1, List.length_append, ih l p h1]
          rfl

theorem rc_next (b : ByteArray) (part k : Nat) : ∀ m L P, rcTo b part k m = .ok (L, P) → ∀ j (hj : j < L.length), ∃ p p', rcTo b part k j = .ok (L.take j, p) ∧ recordAt b p = .ok (L[j], p') ∧ rcTo b part k (j + 1) = .ok (L.take (j + 1), p') ∧ misB (L.take j) L[j] part = false := by
  intro m
  induction m with
  | zero => intro L P h j hj; have := rc_len b part k 0 L P h; omega
  | succ m ih =>
    intro L P h j hj
    have hl := rc_len b part k (m + 1) L P h
    have h0 := h
    rw [rcTo] at h
    cases h1 : rcTo b part k m with
    | error x => rw [h1] at h; simp at h
    | ok q =>
      obtain ⟨l, p⟩ := q
      rw [h1] at h
      simp only at h
      cases h2 : recordAt b p with
      | error x => rw [h2] at h; simp at h
      | ok q2 =>
        obtain ⟨x, p'⟩ := q2
        rw [h2] at h
        simp only at h
        by_cases c : misB l x part = true
        · rw [if_pos c] at h; simp at h
        · rw [if_neg c] at h
          simp only [Except.ok.injEq, Prod.mk.injEq] at h
          obtain ⟨rfl, rfl⟩ := h
          have hll := rc_len b part k m l p h1
          by_cases cj : j < m
          · obtain ⟨p1, p2, g1, g2, g3, g4⟩ := ih l p h1 j (by omega)
            refine ⟨p1, p2, ?_, ?_, ?_, ?_⟩
            · rw [List.take_append_of_le_length (by omega)]; exact g1
            · rw [List.getElem_append_left (by omega)]; exact g2
            · rw [List.take_append_of_le_length (by omega)]; exact g3
            · rw [List.take_append_of_le_length (by omega), List.getElem_append_left (by omega)]; exact g4
          · have ej : j = m := by rw [List.length_append] at hl; simp at hl hj; omega
            subst ej
            have et : (l ++ [x]).take j = l := by rw [← hll]; simp
            have eg : (l ++ [x])[j] = x := by subst hll; simp
            refine ⟨p, p', by rw [et]; exact h1, by rw [eg]; exact h2, ?_, by rw [et, eg]; simpa using c⟩
            rw [List.take_of_length_le (by omega)]; exact h0

theorem qs_len (b : ByteArray) (k : Nat) : ∀ m L P, qsTo b k m = .ok (L, P) → L.length = m := by
  intro m
  induction m with
  | zero => intro L P h; simp only [qsTo, Except.ok.injEq, Prod.mk.injEq] at h; rw [← h.1]; rfl
  | succ m ih =>
    intro L P h
    rw [qsTo] at h
    cases h1 : qsTo b k m with
    | error x => rw [h1] at h; simp at h
    | ok q =>
      obtain ⟨l, p⟩ := q
      rw [h1] at h
      simp only at h
      cases h2 : questionAt b p with
      | error x => rw [h2] at h; simp at h
      | ok q2 =>
        obtain ⟨x, p'⟩ := q2
        rw [h2] at h
        simp only [Except.ok.injEq, Prod.mk.injEq] at h
        rw [← h.1, List.length_append, ih l p h1]
        rfl

theorem qs_next (b : ByteArray) (k : Nat) : ∀ m L P, qsTo b k m = .ok (L, P) → ∀ j (hj : j < L.length), ∃ p p', qsTo b k j = .ok (L.take j, p) ∧ questionAt b p = .ok (L[j], p') ∧ qsTo b k (j + 1) = .ok (L.take (j + 1), p') := by
  intro m
  induction m with
  | zero => intro L P h j hj; have := qs_len b k 0 L P h; omega
  | succ m ih =>
    intro L P h j hj
    have hl := qs_len b k (m + 1) L P h
    have h0 := h
    rw [qsTo] at h
    cases h1 : qsTo b k m with
    | error x => rw [h1] at h; simp at h
    | ok q =>
      obtain ⟨l, p⟩ := q
      rw [h1] at h
      simp only at h
      cases h2 : questionAt b p with
      | error x => rw [h2] at h; simp at h
      | ok q2 =>
        obtain ⟨x, p'⟩ := q2
        rw [h2] at h
        simp only [Except.ok.injEq, Prod.mk.injEq] at h
        obtain ⟨rfl, rfl⟩ := h
        have hll := qs_len b k m l p h1
        by_cases cj : j < m
        · obtain ⟨p1, p2, g1, g2, g3⟩ := ih l p h1 j (by omega)
          refine ⟨p1, p2, ?_, ?_, ?_⟩
          · rw [List.take_append_of_le_length (by omega)]; exact g1
          · rw [List.getElem_append_left (by omega)]; exact g2
          · rw [List.take_append_of_le_length (by omega)]; exact g3
        · have ej : j = m := by rw [List.length_append] at hl; simp at hl hj; omega
          subst ej
          have et : (l ++ [x]).take j = l := by rw [← hll]; simp
          have eg : (l ++ [x])[j] = x := by subst hll; simp
          refine ⟨p, p', by rw [et]; exact h1, by rw [eg]; exact h2, ?_⟩
          rw [List.take_of_length_le (by omega)]; exact h0

theorem rec_open (b : ByteArray) (p : Nat) (x : Rc) (p' : Nat) (h : recordAt b p = .ok (x, p')) :
    ∃ u, nameAt b p = .ok (x.name, u) ∧ p + u + 10 + num b (p + u + 8) 2 ≤ b.size ∧ p' = p + u + 10 + num b (p + u + 8) 2 ∧ x.ty = num b (p + u) 2 ∧ x.cl = num b (p + u + 2) 2 ∧ x.ttl = num b (p + u + 4) 4 ∧
      dataP b (p + u + 10) (num b (p + u + 8) 2) (num b (p + u) 2) = some x.data := by
  unfold recordAt at h
  cases h1 : nameAt b p with
  | error e => rw [h1] at h; simp at h
  | ok q =>
    obtain ⟨s, u⟩ := q
    rw [h1] at h
    simp only at h
    by_cases c : b.size < p + u + 10
    · rw [if_pos c] at h; simp at h
    · rw [if_neg c] at h
      by_cases c' : b.size < p + u + 10 + num b (p + u + 8) 2
      · rw [if_pos c'] at h; simp at h
      · rw [if_neg c'] at h
        cases h2 : dataP b (p + u + 10) (num b (p + u + 8) 2) (num b (p + u) 2) with
        | none => rw [h2] at h; simp at h
        | some d =>
          rw [h2] at h
          simp only [Except.ok.injEq, Prod.mk.injEq] at h
          obtain ⟨rfl, rfl⟩ := h
          exact ⟨u, rfl, by omega, rfl, rfl, rfl, rfl, h2⟩

theorem que_open (b : ByteArray) (p : Nat) (x : Qs) (p' : Nat) (h : questionAt b p = .ok (x, p')) :
    ∃ u, nameAt b p = .ok (x.name, u) ∧ p + u + 4 ≤ b.size ∧ p' = p + u + 4 ∧ x.ty = num b (p + u) 2 ∧ x.cl = num b (p + u + 2) 2 := by
  unfold questionAt at h
  cases h1 : nameAt b p with
  | error e => rw [h1] at h; simp at h
  | ok q =>
    obtain ⟨s, u⟩ := q
    rw [h1] at h
    simp only at h
    by_cases c : b.size < p + u + 4
    · rw [if_pos c] at h; simp at h
    · rw [if_neg c] at h
      simp only [Except.ok.injEq, Prod.mk.injEq] at h
      obtain ⟨rfl, rfl⟩ := h
      exact ⟨u, rfl, by omega, rfl, rfl, rfl⟩

theorem parse_open (b : ByteArray) (m : Msg) (h : parseP b = .ok m) : b.size ≤ 65535 ∧ 12 ≤ b.size ∧ m.id = num b 0 2 ∧ m.flags = num b 2 2 ∧ num b 4 2 = m.q.length ∧ num b 6 2 = m.a.length ∧ num b 8 2 = m.u.length ∧ num b 10 2 = m.x.length ∧
    ∃ p1 p2 p3, qsTo b 12 m.q.length = .ok (m.q, p1) ∧ rcTo b 0 p1 m.a.length = .ok (m.a, p2) ∧ rcTo b 1 p2 m.u.length = .ok (m.u, p3) ∧ rcTo b 2 p3 m.x.length = .ok (m.x, b.size) := by
  unfold parseP at h
  by_cases c1 : 65535 < b.size
  · rw [if_pos c1] at h; simp at h
  rw [if_neg c1] at h
  by_cases c2 : b.size < 12
  · rw [if_pos c2] at h; simp at h
  rw [if_neg c2] at h
  cases h1 : qsTo b 12 (num b 4 2) with
  | error e => rw [h1] at h; simp at h
  | ok r1 =>
    obtain ⟨q, p1⟩ := r1
    rw [h1] at h
    simp only at h
    cases h2 : rcTo b 0 p1 (num b 6 2) with
    | error e => rw [h2] at h; simp at h
    | ok r2 =>
      obtain ⟨a, p2⟩ := r2
      rw [h2] at h
      simp only at h
      cases h3 : rcTo b 1 p2 (num b 8 2) with
      | error e => rw [h3] at h; simp at h
      | ok r3 =>
        obtain ⟨u, p3⟩ := r3
        rw [h3] at h
        simp only at h
        cases h4 : rcTo b 2 p3 (num b 10 2) with
        | error e => rw [h4] at h; simp at h
        | ok r4 =>
          obtain ⟨x, p4⟩ := r4
          rw [h4] at h
          simp only at h
          by_cases c3 : p4 ≠ b.size
          · rw [if_pos c3] at h; simp at h
          · rw [if_neg c3] at h
            simp only [Except.ok.injEq] at h
            subst h
            have l1 := qs_len _ _ _ _ _ h1
            have l2 := rc_len _ _ _ _ _ _ h2
            have l3 := rc_len _ _ _ _ _ _ h3
            have l4 := rc_len _ _ _ _ _ _ h4
            have e4 : p4 = b.size := by omega
            subst e4
            exact ⟨by omega, by omega, rfl, rfl, l1.symm, l2.symm, l3.symm, l4.symm, p1, p2, p3, by rw [l1]; exact h1, by rw [l2]; exact h2, by rw [l3]; exact h3, by rw [l4]; exact h4⟩

end Go.Proofs.YtdhobdmhnocbgaaGreat

namespace Go.Proofs.YtdhobdmhnocbgaaGreat
open Go.RowKit Zr

end Go.Proofs.YtdhobdmhnocbgaaGreat

namespace Go.Proofs.YtdhobdmhnocbgaaGreat
open Go.RowKit Zr

theorem qcells_int (l : List Qs) : qcells l = qcI (l.map Qs.int) := by
  induction l with
  | nil => rfl
  | cons x l ih =>
    show _ :: _ :: _ :: qcells l = _ :: _ :: _ :: qcI (l.map Qs.int)
    rw [ih]
    rfl
theorem rcells_int (l : List Rc) : rcells l = rcI (l.map Rc.int) := by
  induction l with
  | nil => rfl
  | cons x l ih =>
    show _ :: _ :: _ :: _ :: _ :: rcells l = _ :: _ :: _ :: _ :: _ :: rcI (l.map Rc.int)
    rw [ih]
    rfl

theorem msgOk_sized {m : MI} (h : msgOk m) : QSized m.q ∧ RSized m.a ∧ RSized m.u ∧ RSized m.x := by
  obtain ⟨sq, sr⟩ := MsgAt.sizes h
  refine ⟨fun i hi => ?_, fun i hi => ?_, fun i hi => ?_, fun i hi => ?_⟩
  · have := sq i hi; omega
  · have := sr m.a (.inl rfl) i hi; omega
  · have := sr m.u (.inr (.inl rfl)) i hi; omega
  · have := sr m.x (.inr (.inr rfl)) i hi; omega

end Go.Proofs.YtdhobdmhnocbgaaGreat

namespace Go.Proofs.YtdhobdmhnocbgaaGreat
open Go.RowKit Zr

theorem nm_err (b : ByteArray) : ∀ (f k run front : Nat) (e : Int), nm b f k run front = .error e → e ≠ 0 := by
  intro f
  induction f with
  | zero => intro k run front e h; simp only [nm, Except.error.injEq] at h; omega
  | succ f ih =>
    intro k run front e h
    rw [nm] at h
    split at h
    · simp only [Except.error.injEq] at h; omega
    · split at h
      · simp at h
      · split at h
        · split at h
          · simp only [Except.error.injEq] at h; omega
          · split at h
            · simp only [Except.error.injEq] at h; omega
            · split at h
              · simp only [Except.error.injEq] at h; omega
              · split at h
                · simp at h
                · next e' he => simp only [Except.error.injEq] at h; subst h; exact ih _ _ _ _ he
        · split at h
          · simp only [Except.error.injEq] at h; omega
          · split at h
            · simp only [Except.error.injEq] at h; omega
            · split at h
              · simp at h
              · next e' he => simp only [Except.error.injEq] at h; subst h; exact ih _ _ _ _ he

theorem que_err (b : ByteArray) (p : Nat) (e : Int) (h : questionAt b p = .error e) : e ≠ 0 := by
  unfold questionAt at h
  cases h1 : nameAt b p with
  | error x => rw [h1] at h; simp only [Except.error.injEq] at h; subst h; exact nm_err b _ _ _ _ _ h1
  | ok q =>
    rw [h1] at h
    simp only at h
    split at h
    · simp only [Except.error.injEq] at h; omega
    · simp at h

theorem rec_err (b : ByteArray) (p : Nat) (e : Int) (h : recordAt b p = .error e) : e ≠ 0 := by
  unfold recordAt at h
  cases h1 : nameAt b p with
  | error x => rw [h1] at h; simp only [Except.error.injEq] at h; subst h; exact nm_err b _ _ _ _ _ h1
  | ok q =>
    rw [h1] at h
    simp only at h
    split at h
    · simp only [Except.error.injEq] at h; omega
    · split at h
      · simp only [Except.error.injEq] at h; omega
      · split at h
        · simp only [Except.error.injEq] at h; omega
        · simp at h

theorem qs_err (b : ByteArray) (k : Nat) : ∀ m e, qsTo b k m = .error e → e ≠ 0 := by
  intro m
  induction m with
  | zero => intro e h; simp [qsTo] at h
  | succ m ih =>
    intro e h
    rw [qsTo] at h
    cases h1 : qsTo b k m with
    | error x => rw [h1] at h; simp only [Except.error.injEq] at h; subst h; exact ih _ h1
    | ok q =>
      rw [h1] at h
      simp only at h
      cases h2 : questionAt b q.2 with
      | error x => rw [h2] at h; simp only [Except.error.injEq] at h; subst h; exact que_err b _ _ h2
      | ok q2 => rw [h2] at h; simp at h

theorem rc_err (b : ByteArray) (part k : Nat) : ∀ m e, rcTo b part k m = .error e → e ≠ 0 := by
  intro m
  induction m with
  | zero => intro e h; simp [rcTo] at h
  | succ m ih =>
    intro e h
    rw [rcTo] at h
    cases h1 : rcTo b part k m with
    | error x => rw [h1] at h; simp only [Except.error.injEq] at h; subst h; exact ih _ h1
    | ok q =>
      rw [h1] at h
      simp only at h
      cases h2 : recordAt b q.2 with
      | error x => rw [h2] at h; simp only [Except.error.injEq] at h; subst h; exact rec_err b _ _ h2
      | ok q2 =>
        rw [h2] at h
        simp only at h
        split at h
        · simp only [Except.error.injEq] at h; omega
        · simp at h

theorem parse_err (b : ByteArray) (e : Int) (h : parseP b = .error e) : e ≠ 0 := by
  unfold parseP at h
  split at h
  · simp only [Except.error.injEq] at h; omega
  · split at h
    · simp only [Except.error.injEq] at h; omega
    · split at h
      · next x h1 => simp only [Except.error.injEq] at h; subst h; exact qs_err b _ _ _ h1
      · split at h
        · next x h1 => simp only [Except.error.injEq] at h; subst h; exact rc_err b _ _ _ _ h1
        · split at h
          · next x h1 => simp only [Except.error.injEq] at h; subst h; exact rc_err b _ _ _ _ h1
          · split at h
            · next x h1 => simp only [Except.error.injEq] at h; subst h; exact rc_err b _ _ _ _ h1
            · split at h
              · simp only [Except.error.injEq] at h; omega
              · simp at h

theorem append_nothing (s t : ByteArray) (h : t.size = 0) : s ++ t = s := by
  apply bt_ext
  · rw [ByteArray.size_append]; omega
  · intro i hi
    rw [ByteArray.size_append] at hi
    rw [bt_append, if_pos (by omega)]

/-- Data that are read are well made. -/
theorem data_well (b : ByteArray) (k n t : Nat) (d : ByteArray) (hb : b.size ≤ 65535) (hk : k + n ≤ b.size) (h : dataP b k n t = some d) : wellD t d := by
  unfold dataP at h
  by_cases c1 : t = 2 ∨ t = 5 ∨ t = 12
  · rw [if_pos c1] at h
    obtain ⟨S, P, h1, h2, h3⟩ := wn_shape b k n 1 0 d h
    obtain ⟨x, u, q1, q2, _⟩ := names_next b k 1 0 (by omega) S P h1 ⟨#[]⟩ k rfl
    rw [h1] at q2
    simp only [Except.ok.injEq, Prod.mk.injEq] at q2
    obtain ⟨rfl, rfl⟩ := q2
    rw [empty_append, append_nothing x _ (by rw [ByteArray.size_extract]; omega)] at h3
    subst h3
    exact (wellD_one d t c1).2 (name_whole b k d u q1)
  · rw [if_neg c1] at h
    by_cases c2 : t = 6
    · rw [if_pos c2] at h
      obtain ⟨S, P, h1, h2, h3⟩ := wn_shape b k n 2 20 d h
      obtain ⟨x, u, q1, q2, _⟩ := names_next b k 2 0 (by omega) S P h1 ⟨#[]⟩ k rfl
      obtain ⟨y, u', q3, q4, _⟩ := names_next b k 2 1 (by omega) S P h1 _ _ q2
      rw [h1] at q4
      simp only [Except.ok.injEq, Prod.mk.injEq] at q4
      obtain ⟨rfl, rfl⟩ := q4
      rw [empty_append] at h3
      subst c2
      exact (wellD_two d).2 ⟨x, y, _, h3, name_whole b k x u q1, name_whole b _ y u' q3, by rw [ByteArray.size_extract]; omega⟩
    · rw [if_neg c2] at h
      by_cases c3 : flatB t (b.extract k (k + n)) = true
      · rw [if_pos c3] at h
        simp only [Option.some.injEq] at h
        subst h
        exact (wellD_flat _ t c1 c2).2 ⟨by rw [ByteArray.size_extract]; omega, c3⟩
      · rw [if_neg c3] at h; simp at h

theorem part_well (b : ByteArray) (part k P : Nat) (L : List Rc) (hb : b.size ≤ 65535) (hl : L.length ≤ 65535) (h : rcTo b part k L.length = .ok (L, P)) : partOk (L.map Rc.int) part := by
  refine ⟨by simpa using hl, fun i hi => ?_⟩
  have hi' : i < L.length := by simpa using hi
  obtain ⟨p, p', _, h2, _, h4⟩ := rc_next b part k L.length L P h i hi'
  obtain ⟨u, q1, q2, q3, q4, q5, q6, q7⟩ := rec_open b p L[i] p' h2
  have e : (L.map Rc.int)[i] = L[i].int := by simp
  rw [e]
  have t1 : L[i].ty < 65536 := by rw [q4]; exact num_lt2 _ _
  have t2 : L[i].cl < 65536 := by rw [q5]; exact num_lt2 _ _
  have t3 : L[i].ttl < 4294967296 := by rw [q6]; exact num_lt4 _ _ _ (by omega)
  refine ⟨⟨name_whole b p _ u q1, ⟨?_, ?_⟩, ⟨?_, ?_⟩, ⟨?_, ?_⟩, ?_⟩, ?_⟩
  · show (0 : Int) ≤ (L[i].ty : Int); omega
  · show (L[i].ty : Int) ≤ 65535; omega
  · show (0 : Int) ≤ (L[i].cl : Int); omega
  · show (L[i].cl : Int) ≤ 65535; omega
  · show (0 : Int) ≤ (L[i].ttl : Int); omega
  · show (L[i].ttl : Int) ≤ 4294967295; omega
  · show wellD L[i].ty L[i].data
    rw [q4]
    exact data_well b _ _ _ _ hb q2 q7
  · rintro ⟨m1, m2⟩
    have m1' : ((L[i].ty : Nat) : Int) = 41 := m1
    have hf : misB (L.take i) L[i] part = true := by
      simp only [misB, Bool.and_eq_true, beq_iff_eq, Bool.or_eq_true, List.any_eq_true, bne_iff_ne, ne_eq, decide_eq_true_eq]
      refine ⟨by omega, ?_⟩
      rcases m2 with ⟨y, hy, hy2⟩ | m2 | m2
      · rw [← List.map_take, List.mem_map] at hy
        obtain ⟨z, hz, rfl⟩ := hy
        have hy2' : ((z.ty : Nat) : Int) = 41 := hy2
        exact .inl (.inl ⟨z, hz, by omega⟩)
      · exact .inl (.inr m2)
      · exact .inr m2
    rw [h4] at hf
    exact absurd hf (by decide)

/-- What is read is well made. -/
theorem parse_well (b : ByteArray) (m : Msg) (h : parseP b = .ok m) : msgOk m.int := by
  obtain ⟨hb, h12, i1, i2, l1, l2, l3, l4, p1, p2, p3, r1, r2, r3, r4⟩ := parse_open b m h
  have z1 := num_lt2 b 4
  have z2 := num_lt2 b 6
  have z3 := num_lt2 b 8
  have z4 := num_lt2 b 10
  have z5 := num_lt2 b 0
  have z6 := num_lt2 b 2
  refine ⟨⟨?_, ?_⟩, ⟨?_, ?_⟩, ⟨?_, fun i hi => ?_⟩, part_well b 0 p1 p2 m.a hb (by omega) r2, part_well b 1 p2 p3 m.u hb (by omega) r3, part_well b 2 p3 b.size m.x hb (by omega) r4⟩
  · show (0 : Int) ≤ (m.id : Int); omega
  · show (m.id : Int) ≤ 65535; omega
  · show (0 : Int) ≤ (m.flags : Int); omega
  · show (m.flags : Int) ≤ 65535; omega
  · show (m.q.map Qs.int).length ≤ 65535; rw [List.length_map]; omega
  · have hi' : i < m.q.length := by simpa [Msg.int] using hi
    obtain ⟨p, p', _, h2, _⟩ := qs_next b 12 m.q.length m.q p1 r1 i hi'
    obtain ⟨u, q1, q2, q3, q4, q5⟩ := que_open b p _ p' h2
    have e : m.int.q[i] = m.q[i].int := by simp [Msg.int]
    rw [e]
    have t1 : m.q[i].ty < 65536 := by rw [q4]; exact num_lt2 _ _
    have t2 : m.q[i].cl < 65536 := by rw [q5]; exact num_lt2 _ _
    refine ⟨name_whole b p _ u q1, ⟨?_, ?_⟩, ⟨?_, ?_⟩⟩
    · show (0 : Int) ≤ (m.q[i].ty : Int); omega
    · show (m.q[i].ty : Int) ≤ 65535; omega
    · show (0 : Int) ≤ (m.q[i].cl : Int); omega
    · show (m.q[i].cl : Int) ≤ 65535; omega

end Go.Proofs.YtdhobdmhnocbgaaGreat
