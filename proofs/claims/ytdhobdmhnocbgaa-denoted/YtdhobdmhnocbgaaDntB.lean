/-
  Walks over zonekeep: the bytes that spell a record's data.
-/
import Derived.Test.YtdhobdmhnocbgaaDntA
import Derived.Test.YtdhobdmhnocbgaaRefP
namespace Go.Proofs.Ytdhobdmhnocbgaa
open Go.RowKit Zr

theorem names_pre (b : ByteArray) (k : Nat) : ∀ e j S P, namesTo b k (j + e) = .ok (S, P) → ∃ s p, namesTo b k j = .ok (s, p) ∧ Pre s S := by
  intro e
  induction e with
  | zero => intro j S P h; exact ⟨S, P, h, Pre.refl _⟩
  | succ e ih =>
    intro j S P h
    rw [← Nat.add_assoc, namesTo] at h
    cases h1 : namesTo b k (j + e) with
    | error x => rw [h1] at h; simp at h
    | ok q =>
      obtain ⟨s0, p0⟩ := q
      rw [h1] at h
      simp only at h
      cases h2 : nameAt b p0 with
      | error x => rw [h2] at h; simp at h
      | ok q2 =>
        obtain ⟨x, u⟩ := q2
        rw [h2] at h
        simp only [Except.ok.injEq, Prod.mk.injEq] at h
        obtain ⟨rfl, _⟩ := h
        obtain ⟨s, p, h3, h4⟩ := ih j s0 p0 h1
        exact ⟨s, p, h3, h4.trans (pre_append _ _)⟩

theorem names_next (b : ByteArray) (k m j : Nat) (hj : j < m) (S : ByteArray) (P : Nat) (h : namesTo b k m = .ok (S, P)) (s : ByteArray) (p : Nat) (h0 : namesTo b k j = .ok (s, p)) :
    ∃ x u, nameAt b p = .ok (x, u) ∧ namesTo b k (j + 1) = .ok (s ++ x, p + u) ∧ Pre (s ++ x) S := by
  obtain ⟨s', q', x, u, h1, h2⟩ := namesTo_ok b k m S P h j hj
  rw [h0] at h1
  simp only [Except.ok.injEq, Prod.mk.injEq] at h1
  obtain ⟨rfl, rfl⟩ := h1
  have h3 : namesTo b k (j + 1) = .ok (s ++ x, p + u) := by rw [namesTo, h0]; simp only; rw [h2]
  obtain ⟨s2, p2, h4, h5⟩ := names_pre b k (m - (j + 1)) (j + 1) S P (by rw [show j + 1 + (m - (j + 1)) = m by omega]; exact h)
  rw [h3] at h4
  simp only [Except.ok.injEq, Prod.mk.injEq] at h4
  obtain ⟨rfl, _⟩ := h4
  exact ⟨x, u, h2, h3, h5⟩

/-- What stands behind the names of data. -/
def TailOk (t : Nat) (r : ByteArray) : Prop :=
  (t = 1 → r.size = 4) ∧ (t = 28 → r.size = 16) ∧ (t = 6 → r.size = 20) ∧ (t = 2 ∨ t = 5 ∨ t = 12 → r.size = 0) ∧ (t = 33 → 7 ≤ r.size ∧ wholeB (r.extract 6 r.size) = true)

theorem wn_shape (b : ByteArray) (k n m more : Nat) (d : ByteArray) (h : wn b k n m more = some d) : ∃ S P, namesTo b k m = .ok (S, P) ∧ P + more = k + n ∧ d = S ++ b.extract P (k + n) := by
  unfold wn at h
  cases h1 : namesTo b k m with
  | error x => rw [h1] at h; simp at h
  | ok q =>
    obtain ⟨S, P⟩ := q
    rw [h1] at h
    simp only at h
    by_cases c : P + more = k + n
    · rw [if_pos c] at h
      simp only [Option.some.injEq] at h
      rw [c] at h
      exact ⟨S, P, rfl, c, h.symm⟩
    · rw [if_neg c] at h; simp at h

theorem data_shape (b : ByteArray) (k n t : Nat) (d : ByteArray) (hk : k + n ≤ b.size) (h : dataP b k n t = some d) :
    ∃ S P, namesTo b k (namesOf t) = .ok (S, P) ∧ P ≤ k + n ∧ d = S ++ b.extract P (k + n) ∧ TailOk t (b.extract P (k + n)) := by
  unfold dataP at h
  by_cases c1 : t = 2 ∨ t = 5 ∨ t = 12
  · rw [if_pos c1] at h
    obtain ⟨S, P, h1, h2, h3⟩ := wn_shape b k n 1 0 d h
    have e1 : namesOf t = 1 := by unfold namesOf; rw [if_pos c1]
    have e2 : (b.extract P (k + n)).size = 0 := by rw [ByteArray.size_extract]; omega
    exact ⟨S, P, by rw [e1]; exact h1, by omega, h3, by omega, by omega, by omega, fun _ => e2, by omega⟩
  · rw [if_neg c1] at h
    by_cases c2 : t = 6
    · rw [if_pos c2] at h
      obtain ⟨S, P, h1, h2, h3⟩ := wn_shape b k n 2 20 d h
      have e1 : namesOf t = 2 := by unfold namesOf; rw [if_neg c1, if_pos c2]
      have e2 : (b.extract P (k + n)).size = 20 := by rw [ByteArray.size_extract]; omega
      exact ⟨S, P, by rw [e1]; exact h1, by omega, h3, by omega, by omega, fun _ => e2, fun h => absurd h c1, by omega⟩
    · rw [if_neg c2] at h
      have e1 : namesOf t = 0 := by unfold namesOf; rw [if_neg c1, if_neg c2]
      by_cases c3 : flatB t (b.extract k (k + n)) = true
      · rw [if_pos c3] at h
        simp only [Option.some.injEq] at h
        refine ⟨⟨#[]⟩, k, by rw [e1]; rfl, by omega, by rw [empty_append, h], ?_, ?_, fun h => absurd h c2, fun h => absurd h c1, ?_⟩
        · intro ht
          subst ht
          have : ((b.extract k (k + n)).size == 4) = true := c3
          simpa using this
        · intro ht
          subst ht
          have : ((b.extract k (k + n)).size == 16) = true := c3
          simpa using this
        · intro ht
          subst ht
          have c4 : svcB (b.extract k (k + n)) = true := c3
          generalize b.extract k (k + n) = r at c4
          by_cases c5 : r.size < 6
          · rw [svc_short r c5] at c4; exact absurd c4 (by decide)
          · rw [svc_whole r (by omega)] at c4
            have := whole_pos c4
            rw [ByteArray.size_extract] at this
            exact ⟨by omega, c4⟩
      · rw [if_neg c3] at h; simp at h

theorem ext_sub (s : ByteArray) (k c d : Nat) (hk : k ≤ s.size) (hc : c ≤ d) (hd : k + d ≤ s.size) : (s.extract k s.size).extract c d = s.extract (k + c) (k + d) := by
  have h1 : (s.extract k s.size).size = s.size - k := by rw [ByteArray.size_extract]; omega
  have h2 : ((s.extract k s.size).extract c d).size = d - c := by rw [ByteArray.size_extract, h1]; omega
  have h3 : (s.extract (k + c) (k + d)).size = d - c := by rw [ByteArray.size_extract]; omega
  apply bt_ext
  · rw [h2, h3]
  · intro i hi
    rw [h2] at hi
    rw [bt_ex _ c d i (by omega) (by omega), bt_ex s k s.size (c + i) (by omega) (Nat.le_refl _), bt_ex s (k + c) (k + d) i (by omega) (by omega)]
    congr 1; omega

/-- What stands behind a part that stands at the front. -/
theorem Pre.rest {A x D : ByteArray} (h : Pre (A ++ x) D) : A.size + x.size ≤ D.size ∧ Pre x (D.extract A.size D.size) ∧ (D.extract A.size D.size).extract 0 x.size = x ∧ (D.extract A.size D.size).extract x.size (D.extract A.size D.size).size = D.extract (A ++ x).size D.size := by
  have h1 := h.1
  rw [ByteArray.size_append] at h1
  have hs : (D.extract A.size D.size).size = D.size - A.size := by rw [ByteArray.size_extract]; omega
  refine ⟨h1, ⟨by omega, fun i hi => ?_⟩, ?_, ?_⟩
  · rw [bt_ex _ _ _ i (by omega) (Nat.le_refl _), h.at i hi]
  · rw [ext_sub D A.size 0 x.size (by omega) (by omega) h1, Nat.add_zero]
    exact h.cut
  · rw [hs, ext_sub D A.size x.size (D.size - A.size) (by omega) (by omega) (by omega), ByteArray.size_append, show A.size + (D.size - A.size) = D.size by omega]

theorem ahead_nat (t : Nat) (w : World) :
    Calls Try.prog 130 #[.int .i64 t] w fun e w' => e = .returned (.int .i64 (namesOf t : Nat)) ∧ w' = w := by
  by_cases c1 : t = 2 ∨ t = 5 ∨ t = 12
  · have e1 : namesOf t = 1 := by unfold namesOf; rw [if_pos c1]
    rw [e1]
    rcases c1 with rfl | rfl | rfl
    all_goals
      go_enter Try.func130, Try.ntmps130
      go_wp2_with fail
      go_ret
      exact ⟨rfl, rfl⟩
  · by_cases c2 : t = 6
    · have e1 : namesOf t = 2 := by unfold namesOf; rw [if_neg c1, if_pos c2]
      rw [e1]
      subst c2
      go_enter Try.func130, Try.ntmps130
      go_wp2_with fail
      go_ret
      exact ⟨rfl, rfl⟩
    · have e1 : namesOf t = 0 := by unfold namesOf; rw [if_neg c1, if_neg c2]
      rw [e1]
      have d1 : ((t : Int) == 2) = false := beq_eq_false_iff_ne.2 (by omega)
      have d2 : ((t : Int) == 5) = false := beq_eq_false_iff_ne.2 (by omega)
      have d3 : ((t : Int) == 12) = false := beq_eq_false_iff_ne.2 (by omega)
      have d4 : ((t : Int) == 6) = false := beq_eq_false_iff_ne.2 (by omega)
      go_enter Try.func130, Try.ntmps130
      go_wp2_with fail
      go_ret
      exact ⟨rfl, rfl⟩

set_option maxRecDepth 100000 in
set_option maxHeartbeats 4000000 in
theorem filled_any (b d : ByteArray) (k n t : Nat) (v : Int) (w : World) (hb : b.size ≤ 65535) (hv : v = k) (hk : k + n ≤ b.size) (h : dataP b k n t = some d) :
    Calls Try.prog 95 #[.string b, .int .i64 v, .int .i64 n, .int .i64 t, .string d] w fun e w' => e = .returned (.bool true) ∧ ∃ m, w' = w.drewN m := by
  subst hv
  have hds := dataP_size b k n t hk d h
  obtain ⟨S, P, h1, h2, h3, h4⟩ := data_shape b k n t d hk h
  have hP : Pre S d := by rw [h3]; exact pre_append _ _
  have hr : d.extract S.size d.size = b.extract P (k + n) := by rw [h3]; exact extract_back _ _
  have hbd := namesTo_bounds b k (by omega) (namesOf t) S P h1
  have hn2 := namesOf_le t
  have keyA := fun W => ahead_nat t W
  have K := hide keyA
  have H1 := hide h1
  have HP := hide hP
  have HR := hide hr
  have H4 := hide h4
  clear h keyA h1 hP hr h4 h3
  generalize hm : namesOf t = m at *
  go_enter Try.func95, Try.ntmps95
  go_wp2_with fail
  refine (unhide K _).mono ?_
  rintro e w' ⟨rfl, rfl⟩
  go_wp2_with fail
  go_loopw [1, 4, 12] (fun va vd vk w'' => ∃ (j p z : Nat) (s : ByteArray), j ≤ m ∧ p ≤ b.size ∧ va = .int .i64 p ∧ vd = .string (d.extract s.size d.size) ∧ vk = .int .i64 ((m - j : Nat) : Int) ∧ Hid (namesTo b k j = .ok (s, p)) ∧ w'' = w'.drewN z) (fun _ _ vk _ => (intOf vk).toNat)
  case atStart => exact ⟨0, k, 0, ⟨#[]⟩, Nat.zero_le _, by omega, rfl, by show _ = Value.string (d.extract 0 d.size); rw [extract_all], rfl, hide rfl, rfl⟩
  case round =>
    obtain ⟨j, p, z, s, hj, hp, rfl, rfl, rfl, HN, rfl⟩ := hrel
    by_cases cj : j < m
    · obtain ⟨x, u, q1, q2, q3⟩ := names_next b k m j cj S P (unhide H1) s p (unhide HN)
      obtain ⟨r1, r2, r3, r4⟩ := (q3.trans (unhide HP)).rest
      have hx := name_whole b p x u q1
      obtain ⟨g1, g2, g3⟩ := nameAt_bounds b p x u q1
      have hxs := whole_pos hx
      have e0 : (d.extract s.size d.size).size = d.size - s.size := by rw [ByteArray.size_extract]; omega
      have key1 := fun W => first_any (d.extract s.size d.size) x W (by omega) hx r2
      have key2 := fun W => spelled_any b x p u p W hb rfl q1
      have K1 := hide key1
      have K2 := hide key2
      have Q2 := hide q2
      have R4 := hide r4
      have R3 := hide r3
      clear key1 key2 q1 q2 q3 r2 r3 r4 HN hx
      generalize d.extract s.size d.size = D at *
      have hpos : (0 : Int) < ((m - j : Nat) : Int) := by omega
      go_wp2_with fail
      refine (unhide K1 _).mono ?_
      rintro e w1 ⟨rfl, z1, rfl⟩
      have hr3 := unhide R3
      have hr4 := unhide R4
      have hDx : x.size ≤ D.size := by omega
      go_wp2_with fail
      refine (unhide K2 _).mono ?_
      rintro e w1 ⟨rfl, z2, rfl⟩
      go_wp2_with fail
      refine ⟨⟨j + 1, p + u, z + z1 + z2, s ++ x, by omega, by omega, by go_num, by rw [← unhide R4, e0], by go_num, Q2, rfl⟩, by simp [intOf]; omega⟩
    · have ej : j = m := by omega
      subst ej
      have hd := (unhide HN).symm.trans (unhide H1)
      simp only [Except.ok.injEq, Prod.mk.injEq] at hd
      obtain ⟨rfl, rfl⟩ := hd
      rw [unhide HR]
      have n1 : ((k : Int) + (n : Int)).toNat = k + n := by omega
      have d1 : decide ((k : Int) + (n : Int) < (p : Int)) = false := by simp; omega
      have hne : ((b.extract p (k + n)).toList != (b.extract p (k + n)).toList) = false := by simp
      obtain ⟨t1, t2, t3, t4, t5⟩ := unhide H4
      clear HN H1 HP HR H4 K
      by_cases c1 : t = 1
      · subst c1
        have e1 := t1 rfl
        clear t1 t2 t3 t4 t5
        go_wp2_with fail
        go_ret
        exact ⟨rfl, _, rfl⟩
      · by_cases c2 : t = 28
        · subst c2
          have e1 := t2 rfl
          clear t1 t2 t3 t4 t5
          go_wp2_with fail
          go_ret
          exact ⟨rfl, _, rfl⟩
        · by_cases c3 : t = 6
          · subst c3
            have e1 := t3 rfl
            clear t1 t2 t3 t4 t5
            go_wp2_with fail
            go_ret
            exact ⟨rfl, _, rfl⟩
          · by_cases c4 : t = 2 ∨ t = 5 ∨ t = 12
            · have e1 := t4 c4
              have er : b.extract p (k + n) = ⟨#[]⟩ := by
                apply bt_ext
                · rw [e1]; rfl
                · intro i hi; omega
              clear t1 t2 t3 t4 t5 e1 hne
              have hne : ((⟨#[]⟩ : ByteArray).toList != (⟨#[]⟩ : ByteArray).toList) = false := by simp
              rw [er]
              rcases c4 with rfl | rfl | rfl
              all_goals
                go_wp2_with fail
                go_ret
                exact ⟨rfl, _, rfl⟩
            · have d2 : ((t : Int) == 1) = false := beq_eq_false_iff_ne.2 (by omega)
              have d3 : ((t : Int) == 28) = false := beq_eq_false_iff_ne.2 (by omega)
              have d4 : ((t : Int) == 6) = false := beq_eq_false_iff_ne.2 (by omega)
              have d5 : ((t : Int) == 2) = false := beq_eq_false_iff_ne.2 (by omega)
              have d6 : ((t : Int) == 5) = false := beq_eq_false_iff_ne.2 (by omega)
              have d7 : ((t : Int) == 12) = false := beq_eq_false_iff_ne.2 (by omega)
              by_cases c5 : t = 33
              · obtain ⟨e1, e2⟩ := t5 c5
                have d8 : ((t : Int) == 33) = true := beq_iff_eq.2 (by omega)
                have ers : (b.extract p (k + n)).size ≤ b.size := by rw [ByteArray.size_extract]; omega
                have e3 : ((b.extract p (k + n)).extract 6 (b.extract p (k + n)).size).size = (b.extract p (k + n)).size - 6 := by rw [ByteArray.size_extract]; omega
                have key := fun W => first_any ((b.extract p (k + n)).extract 6 (b.extract p (k + n)).size) _ W (by omega) e2 (Pre.refl _)
                rw [e3] at key
                have K := hide key
                clear key t1 t2 t3 t4 t5 e2
                generalize hgr : b.extract p (k + n) = r at *
                have e4 : (((r.size - 6 : Nat) : Int) == (r.size : Int) - 6) = true := beq_iff_eq.2 (by omega)
                go_wp2_with fail
                refine (unhide K _).mono ?_
                rintro e w1 ⟨rfl, z2, rfl⟩
                go_wp2_with fail
                go_ret
                exact ⟨rfl, _, rfl⟩
              · have d8 : ((t : Int) == 33) = false := beq_eq_false_iff_ne.2 (by omega)
                clear t1 t2 t3 t4 t5
                go_wp2_with fail
                go_ret
                exact ⟨rfl, _, rfl⟩

end Go.Proofs.Ytdhobdmhnocbgaa
