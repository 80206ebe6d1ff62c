/-
  The plain side: what is read is well made; an error is an error. Walks over zonekeep: begins, Denoted.
-/
import Derived.Test.YtdhobdmhnocbgaaDntD
import Derived.Test.YtdhobdmhnocbgaaKeepB
namespace Go.Proofs.Ytdhobdmhnocbgaa
open Go.RowKit Zr

theorem nm_err (b : ByteArray) : ∀ (f k run front : Nat) (e : Int), nm b f k run front = .error e → e ≠ 0 := by
  intro f
  induction f with
  | zero => intro k run front e h; simp only [nm, Except.error.injEq] at h; omega
  | succ f ih =>
    intro k run front e h
    rw [nm] at h
    split at h
    · simp only [Except.error.injEq] at h; omega
    · split at h
      · simp at h
      · split at h
        · split at h
          · simp only [Except.error.injEq] at h; omega
          · split at h
            · simp only [Except.error.injEq] at h; omega
            · split at h
              · simp only [Except.error.injEq] at h; omega
              · split at h
                · simp at h
                · next e' he => simp only [Except.error.injEq] at h; subst h; exact ih _ _ _ _ he
        · split at h
          · simp only [Except.error.injEq] at h; omega
          · split at h
            · simp only [Except.error.injEq] at h; omega
            · split at h
              · simp at h
              · next e' he => simp only [Except.error.injEq] at h; subst h; exact ih _ _ _ _ he

theorem que_err (b : ByteArray) (p : Nat) (e : Int) (h : questionAt b p = .error e) : e ≠ 0 := by
  unfold questionAt at h
  cases h1 : nameAt b p with
  | error x => rw [h1] at h; simp only [Except.error.injEq] at h; subst h; exact nm_err b _ _ _ _ _ h1
  | ok q =>
    rw [h1] at h
    simp only at h
    split at h
    · simp only [Except.error.injEq] at h; omega
    · simp at h

theorem rec_err (b : ByteArray) (p : Nat) (e : Int) (h : recordAt b p = .error e) : e ≠ 0 := by
  unfold recordAt at h
  cases h1 : nameAt b p with
  | error x => rw [h1] at h; simp only [Except.error.injEq] at h; subst h; exact nm_err b _ _ _ _ _ h1
  | ok q =>
    rw [h1] at h
    simp only at h
    split at h
    · simp only [Except.error.injEq] at h; omega
    · split at h
      · simp only [Except.error.injEq] at h; omega
      · split at h
        · simp only [Except.error.injEq] at h; omega
        · simp at h

theorem qs_err (b : ByteArray) (k : Nat) : ∀ m e, qsTo b k m = .error e → e ≠ 0 := by
  intro m
  induction m with
  | zero => intro e h; simp [qsTo] at h
  | succ m ih =>
    intro e h
    rw [qsTo] at h
    cases h1 : qsTo b k m with
    | error x => rw [h1] at h; simp only [Except.error.injEq] at h; subst h; exact ih _ h1
    | ok q =>
      rw [h1] at h
      simp only at h
      cases h2 : questionAt b q.2 with
      | error x => rw [h2] at h; simp only [Except.error.injEq] at h; subst h; exact que_err b _ _ h2
      | ok q2 => rw [h2] at h; simp at h

theorem rc_err (b : ByteArray) (part k : Nat) : ∀ m e, rcTo b part k m = .error e → e ≠ 0 := by
  intro m
  induction m with
  | zero => intro e h; simp [rcTo] at h
  | succ m ih =>
    intro e h
    rw [rcTo] at h
    cases h1 : rcTo b part k m with
    | error x => rw [h1] at h; simp only [Except.error.injEq] at h; subst h; exact ih _ h1
    | ok q =>
      rw [h1] at h
      simp only at h
      cases h2 : recordAt b q.2 with
      | error x => rw [h2] at h; simp only [Except.error.injEq] at h; subst h; exact rec_err b _ _ h2
      | ok q2 =>
        rw [h2] at h
        simp only at h
        split at h
        · simp only [Except.error.injEq] at h; omega
        · simp at h

theorem parse_err (b : ByteArray) (e : Int) (h : parseP b = .error e) : e ≠ 0 := by
  unfold parseP at h
  split at h
  · simp only [Except.error.injEq] at h; omega
  · split at h
    · simp only [Except.error.injEq] at h; omega
    · split at h
      · next x h1 => simp only [Except.error.injEq] at h; subst h; exact qs_err b _ _ _ h1
      · split at h
        · next x h1 => simp only [Except.error.injEq] at h; subst h; exact rc_err b _ _ _ _ h1
        · split at h
          · next x h1 => simp only [Except.error.injEq] at h; subst h; exact rc_err b _ _ _ _ h1
          · split at h
            · next x h1 => simp only [Except.error.injEq] at h; subst h; exact rc_err b _ _ _ _ h1
            · split at h
              · simp only [Except.error.injEq] at h; omega
              · simp at h

theorem append_nothing (s t : ByteArray) (h : t.size = 0) : s ++ t = s := by
  apply bt_ext
  · rw [ByteArray.size_append]; omega
  · intro i hi
    rw [ByteArray.size_append] at hi
    rw [bt_append, if_pos (by omega)]

/-- Data that are read are well made. -/
theorem data_well (b : ByteArray) (k n t : Nat) (d : ByteArray) (hb : b.size ≤ 65535) (hk : k + n ≤ b.size) (h : dataP b k n t = some d) : wellD t d := by
  unfold dataP at h
  by_cases c1 : t = 2 ∨ t = 5 ∨ t = 12
  · rw [if_pos c1] at h
    obtain ⟨S, P, h1, h2, h3⟩ := wn_shape b k n 1 0 d h
    obtain ⟨x, u, q1, q2, _⟩ := names_next b k 1 0 (by omega) S P h1 ⟨#[]⟩ k rfl
    rw [h1] at q2
    simp only [Except.ok.injEq, Prod.mk.injEq] at q2
    obtain ⟨rfl, rfl⟩ := q2
    rw [empty_append, append_nothing x _ (by rw [ByteArray.size_extract]; omega)] at h3
    subst h3
    exact (wellD_one d t c1).2 (name_whole b k d u q1)
  · rw [if_neg c1] at h
    by_cases c2 : t = 6
    · rw [if_pos c2] at h
      obtain ⟨S, P, h1, h2, h3⟩ := wn_shape b k n 2 20 d h
      obtain ⟨x, u, q1, q2, _⟩ := names_next b k 2 0 (by omega) S P h1 ⟨#[]⟩ k rfl
      obtain ⟨y, u', q3, q4, _⟩ := names_next b k 2 1 (by omega) S P h1 _ _ q2
      rw [h1] at q4
      simp only [Except.ok.injEq, Prod.mk.injEq] at q4
      obtain ⟨rfl, rfl⟩ := q4
      rw [empty_append] at h3
      subst c2
      exact (wellD_two d).2 ⟨x, y, _, h3, name_whole b k x u q1, name_whole b _ y u' q3, by rw [ByteArray.size_extract]; omega⟩
    · rw [if_neg c2] at h
      by_cases c3 : flatB t (b.extract k (k + n)) = true
      · rw [if_pos c3] at h
        simp only [Option.some.injEq] at h
        subst h
        exact (wellD_flat _ t c1 c2).2 ⟨by rw [ByteArray.size_extract]; omega, c3⟩
      · rw [if_neg c3] at h; simp at h

theorem part_well (b : ByteArray) (part k P : Nat) (L : List Rc) (hb : b.size ≤ 65535) (hl : L.length ≤ 65535) (h : rcTo b part k L.length = .ok (L, P)) : partOk (L.map Rc.int) part := by
  refine ⟨by simpa using hl, fun i hi => ?_⟩
  have hi' : i < L.length := by simpa using hi
  obtain ⟨p, p', _, h2, _, h4⟩ := rc_next b part k L.length L P h i hi'
  obtain ⟨u, q1, q2, q3, q4, q5, q6, q7⟩ := rec_open b p L[i] p' h2
  have e : (L.map Rc.int)[i] = L[i].int := by simp
  rw [e]
  have t1 : L[i].ty < 65536 := by rw [q4]; exact num_lt2 _ _
  have t2 : L[i].cl < 65536 := by rw [q5]; exact num_lt2 _ _
  have t3 : L[i].ttl < 4294967296 := by rw [q6]; exact num_lt4 _ _ _ (by omega)
  refine ⟨⟨name_whole b p _ u q1, ⟨?_, ?_⟩, ⟨?_, ?_⟩, ⟨?_, ?_⟩, ?_⟩, ?_⟩
  · show (0 : Int) ≤ (L[i].ty : Int); omega
  · show (L[i].ty : Int) ≤ 65535; omega
  · show (0 : Int) ≤ (L[i].cl : Int); omega
  · show (L[i].cl : Int) ≤ 65535; omega
  · show (0 : Int) ≤ (L[i].ttl : Int); omega
  · show (L[i].ttl : Int) ≤ 4294967295; omega
  · show wellD L[i].ty L[i].data
    rw [q4]
    exact data_well b _ _ _ _ hb q2 q7
  · rintro ⟨m1, m2⟩
    have m1' : ((L[i].ty : Nat) : Int) = 41 := m1
    have hf : misB (L.take i) L[i] part = true := by
      simp only [misB, Bool.and_eq_true, beq_iff_eq, Bool.or_eq_true, List.any_eq_true, bne_iff_ne, ne_eq, decide_eq_true_eq]
      refine ⟨by omega, ?_⟩
      rcases m2 with ⟨y, hy, hy2⟩ | m2 | m2
      · rw [← List.map_take, List.mem_map] at hy
        obtain ⟨z, hz, rfl⟩ := hy
        have hy2' : ((z.ty : Nat) : Int) = 41 := hy2
        exact .inl (.inl ⟨z, hz, by omega⟩)
      · exact .inl (.inr m2)
      · exact .inr m2
    rw [h4] at hf
    exact absurd hf (by decide)

/-- What is read is well made. -/
theorem parse_well (b : ByteArray) (m : Msg) (h : parseP b = .ok m) : msgOk m.int := by
  obtain ⟨hb, h12, i1, i2, l1, l2, l3, l4, p1, p2, p3, r1, r2, r3, r4⟩ := parse_open b m h
  have z1 := num_lt2 b 4
  have z2 := num_lt2 b 6
  have z3 := num_lt2 b 8
  have z4 := num_lt2 b 10
  have z5 := num_lt2 b 0
  have z6 := num_lt2 b 2
  refine ⟨⟨?_, ?_⟩, ⟨?_, ?_⟩, ⟨?_, fun i hi => ?_⟩, part_well b 0 p1 p2 m.a hb (by omega) r2, part_well b 1 p2 p3 m.u hb (by omega) r3, part_well b 2 p3 b.size m.x hb (by omega) r4⟩
  · show (0 : Int) ≤ (m.id : Int); omega
  · show (m.id : Int) ≤ 65535; omega
  · show (0 : Int) ≤ (m.flags : Int); omega
  · show (m.flags : Int) ≤ 65535; omega
  · show (m.q.map Qs.int).length ≤ 65535; rw [List.length_map]; omega
  · have hi' : i < m.q.length := by simpa [Msg.int] using hi
    obtain ⟨p, p', _, h2, _⟩ := qs_next b 12 m.q.length m.q p1 r1 i hi'
    obtain ⟨u, q1, q2, q3, q4, q5⟩ := que_open b p _ p' h2
    have e : m.int.q[i] = m.q[i].int := by simp [Msg.int]
    rw [e]
    have t1 : m.q[i].ty < 65536 := by rw [q4]; exact num_lt2 _ _
    have t2 : m.q[i].cl < 65536 := by rw [q5]; exact num_lt2 _ _
    refine ⟨name_whole b p _ u q1, ⟨?_, ?_⟩, ⟨?_, ?_⟩⟩
    · show (0 : Int) ≤ (m.q[i].ty : Int); omega
    · show (m.q[i].ty : Int) ≤ 65535; omega
    · show (0 : Int) ≤ (m.q[i].cl : Int); omega
    · show (m.q[i].cl : Int) ≤ 65535; omega

theorem parse_one : parseP ⟨#[0, 1, 0, 0, 0, 1, 0, 0, 0, 0, 0, 0, 1, 97, 0, 0, 1, 0, 1]⟩ = .ok ⟨1, 0, [⟨⟨#[1, 97, 0]⟩, 1, 1⟩], [], [], []⟩ := by kernel_rfl

end Go.Proofs.Ytdhobdmhnocbgaa
