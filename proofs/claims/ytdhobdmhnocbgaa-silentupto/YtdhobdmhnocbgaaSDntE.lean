/-
  Walks over zonekeep: two bytes, the name at the front of data, the bytes that spell a name.
-/
/-
  Walks over zonekeep: the bytes that spell a record's data.
-/
/-
  Walks over zonekeep: the bytes that spell records, and a whole message.
-/
/-
  Walks over zonekeep: the bytes that spell a message.
-/
/-
  Walks over zonekeep: a message that is well made is written and read back.
-/
/-
  The plain side: what is read is well made; an error is an error. Walks over zonekeep: begins, Denoted.
-/
import Derived.Test.YtdhobdmhnocbgaaSKeepA
import Derived.Test.YtdhobdmhnocbgaaSRefP
namespace Go.Proofs.Ytdhobdmhnocbgaa
open Go.RowKit Zr

/-- How a name that is read goes on. -/
theorem nm_cases (b s : ByteArray) (i r k t : Nat) (h : nmAt b i r k = .ok (s.extract k s.size, t)) (hk : k < s.size) :
    i < b.size ∧ ((bt b i = 0 ∧ k + 1 = s.size ∧ bt s k = 0 ∧ t = 1) ∨
      (192 ≤ bt b i ∧ i + 1 < b.size ∧ 256 * (bt b i - 192) + bt b (i + 1) < r ∧ t = 2 ∧ ∃ u, nmAt b (256 * (bt b i - 192) + bt b (i + 1)) (256 * (bt b i - 192) + bt b (i + 1)) k = .ok (s.extract k s.size, u)) ∨
      (1 ≤ bt b i ∧ bt b i ≤ 63 ∧ i + 1 + bt b i ≤ b.size ∧ k + 1 + bt b i < s.size ∧ b.extract i (i + 1 + bt b i) = s.extract k (k + 1 + bt b i) ∧
        ∃ u, t = 1 + bt b i + u ∧ nmAt b (i + 1 + bt b i) r (k + 1 + bt b i) = .ok (s.extract (k + 1 + bt b i) s.size, u))) := by
  have hse : (s.extract k s.size).size = s.size - k := by rw [ByteArray.size_extract]; omega
  rw [nmAt_eq] at h
  by_cases c0 : b.size ≤ i
  · rw [if_pos c0] at h; simp at h
  · rw [if_neg c0] at h
    refine ⟨by omega, ?_⟩
    by_cases c1 : bt b i = 0
    · rw [if_pos c1] at h
      simp only [Except.ok.injEq, Prod.mk.injEq] at h
      obtain ⟨h1, h2⟩ := h
      have e1 : s.size - k = 1 := by rw [← hse, ← h1]; rfl
      refine .inl ⟨c1, by omega, ?_, h2.symm⟩
      have := bt_ex s k s.size 0 (by omega) (Nat.le_refl _)
      rw [← h1, Nat.add_zero] at this
      rw [← this]; rfl
    · rw [if_neg c1] at h
      by_cases c2 : 63 < bt b i
      · rw [if_pos c2] at h
        by_cases c3 : bt b i < 192
        · rw [if_pos c3] at h; simp at h
        · rw [if_neg c3] at h
          by_cases c4 : b.size ≤ i + 1
          · rw [if_pos c4] at h; simp at h
          · rw [if_neg c4] at h
            by_cases c5 : r ≤ 256 * (bt b i - 192) + bt b (i + 1)
            · rw [if_pos c5] at h; simp at h
            · rw [if_neg c5] at h
              refine .inr (.inl ⟨by omega, by omega, by omega, ?_⟩)
              generalize nmAt b (256 * (bt b i - 192) + bt b (i + 1)) (256 * (bt b i - 192) + bt b (i + 1)) k = x at h
              cases x with
              | error e => simp at h
              | ok p =>
                obtain ⟨s', u⟩ := p
                simp only [Except.ok.injEq, Prod.mk.injEq] at h
                obtain ⟨rfl, rfl⟩ := h
                exact ⟨rfl, u, rfl⟩
      · rw [if_neg c2] at h
        by_cases c3 : b.size < i + 1 + bt b i
        · rw [if_pos c3] at h; simp at h
        · rw [if_neg c3] at h
          by_cases c4 : 255 < k + 1 + bt b i + 1
          · rw [if_pos c4] at h; simp at h
          · rw [if_neg c4] at h
            refine .inr (.inr ⟨by omega, by omega, by omega, ?_⟩)
            have hp := nm_tl b (enough b (i + 1 + bt b i) r + 1) (i + 1 + bt b i) r (k + 1 + bt b i)
            have hp' : ∀ x u, nmAt b (i + 1 + bt b i) r (k + 1 + bt b i) = .ok (x, u) → 0 < x.size := fun x u hx => (hp x u hx).1.lt
            generalize nmAt b (i + 1 + bt b i) r (k + 1 + bt b i) = x at h hp'
            cases x with
            | error e => simp at h
            | ok p =>
              obtain ⟨s', u⟩ := p
              simp only [Except.ok.injEq, Prod.mk.injEq] at h
              obtain ⟨h1, h2⟩ := h
              have h3 := hp' s' u rfl
              have hs1 : (b.extract i (i + 1 + bt b i)).size = 1 + bt b i := by rw [ByteArray.size_extract]; omega
              have hsz : s.size - k = 1 + bt b i + s'.size := by rw [← hse, ← h1, ByteArray.size_append, hs1]
              have hA : b.extract i (i + 1 + bt b i) = s.extract k (k + 1 + bt b i) := by
                apply bt_ext
                · rw [hs1, ByteArray.size_extract]; omega
                · intro j hj
                  rw [hs1] at hj
                  have e1 := bt_append (b.extract i (i + 1 + bt b i)) s' j
                  rw [if_pos (by omega), h1, bt_ex s k s.size j (by omega) (Nat.le_refl _)] at e1
                  rw [← e1, bt_ex s k _ j (by omega) (by omega)]
              have hB : s' = s.extract (k + 1 + bt b i) s.size := by
                apply bt_ext
                · rw [ByteArray.size_extract]; omega
                · intro j hj
                  have e1 := bt_append (b.extract i (i + 1 + bt b i)) s' (1 + bt b i + j)
                  rw [if_neg (by omega), hs1, h1, bt_ex s k s.size _ (by omega) (Nat.le_refl _), show 1 + bt b i + j - (1 + bt b i) = j by omega] at e1
                  rw [← e1, bt_ex s _ _ j (by omega) (Nat.le_refl _)]
                  congr 1; omega
              exact ⟨by omega, hA, u, h2.symm, by rw [hB]⟩

set_option maxHeartbeats 1000000 in
theorem two_any (b : ByteArray) (k : Nat) (v : Int) (w : World) (hb : b.size ≤ 65535) (hv : v = k) (hk : k + 2 ≤ b.size) :
    Calls Try.prog 56 #[.string b, .int .i64 v] w fun e w' => e = .returned (.int .i64 (num b k 2 : Nat)) ∧ ∃ n, w' = w.drewN n := by
  subst hv
  have hg0 := bt_get b k (by omega)
  have hg1 := bt_get b (k + 1) (by omega)
  have hl0 := bt_lt b k
  have hl1 := bt_lt b (k + 1)
  have hn : (num b k 2 : Nat) = 256 * bt b k + bt b (k + 1) := by simp only [num]; rw [Nat.add_zero]; omega
  rw [hn]
  clear hn
  generalize bt b k = x0 at *
  generalize bt b (k + 1) = x1 at *
  go_enter Try.func56, Try.ntmps56
  go_wp2_with fail
  go_quiet (fail)
  go_wp2_with fail
  go_ret
  exact ⟨by go_num, _, rfl⟩

set_option maxHeartbeats 1000000 in
theorem first_any (s x : ByteArray) (w : World) (hs : s.size ≤ 281474976710656) (hx : wholeB x = true) (hp : Pre x s) :
    Calls Try.prog 131 #[.string s] w fun e w' => e = .returned (.int .i64 (x.size : Nat)) ∧ ∃ n, w' = w.drewN n := by
  obtain ⟨ht, h255⟩ := tl_ok hx
  have hp1 := hp.1
  have HP := hide hp.2
  have HT := hide ht
  clear hp ht hx
  go_enter Try.func131, Try.ntmps131
  go_wp2_with fail
  go_loopw [3] (fun i w' => ∃ j m : Nat, j < x.size ∧ i = .int .i64 j ∧ Hid (Tl x j) ∧ w' = w.drewN m) (fun i _ => x.size - (intOf i).toNat)
  case atStart => exact ⟨0, 0, (unhide HT).lt, rfl, HT, rfl⟩
  case round =>
    obtain ⟨j, m, hj, rfl, HJ, rfl⟩ := hrel
    have hg0 := bt_get s j (by omega)
    have hbj := unhide HP j hj
    rw [hbj] at hg0
    clear hbj
    cases unhide HJ with
    | root _ h1 h2 =>
      rw [h2] at hg0
      go_wp2_with fail
      go_ret
      exact ⟨ret_int (by omega), m, rfl⟩
    | lab _ h1 h2 h3 =>
      have hlt := h3.lt
      have H3 := hide h3
      clear h3
      generalize bt x j = n at *
      go_wp2_with fail
      exact ⟨⟨j + 1 + n, m, hlt, by go_num, H3, rfl⟩, by simp [intOf]; omega⟩

set_option maxRecDepth 100000 in
set_option maxHeartbeats 4000000 in
theorem spelled_any (b s : ByteArray) (k t : Nat) (v : Int) (w : World) (hb : b.size ≤ 65535) (hv : v = k) (h : nameAt b k = .ok (s, t)) :
    Calls Try.prog 57 #[.string b, .int .i64 v, .string s] w fun e w' => e = .returned (.int .i64 (t : Nat)) ∧ ∃ n, w' = w.drewN n := by
  subst hv
  obtain ⟨t1, t2, t3⟩ := nameAt_bounds b k s t h
  have hw := whole_pos (name_whole b k s t h)
  have h0 : nmAt b k k 0 = .ok (s.extract 0 s.size, t) := by rw [extract_all]; exact h
  have H0 := hide h0
  clear h h0
  go_enter Try.func57, Try.ntmps57
  go_wp2_with fail
  go_loopw [7, 8, 9, 10, 11] (fun vr vi vk vt vs w' => ∃ (r i q st u m : Nat) (tk : Int), vr = .int .i64 r ∧ vi = .int .i64 i ∧ vk = .int .i64 q ∧ vt = .int .i64 tk ∧ vs = .int .i64 st ∧ Hid (nmAt b i r q = .ok (s.extract q s.size, u)) ∧ q < s.size ∧ r ≤ k ∧ st + r ≤ q + k ∧ Hid ((tk = -1 ∧ i + u = k + t ∧ k ≤ i) ∨ tk = t) ∧ w' = w.drewN m) (fun _ _ _ _ vs _ => b.size + 300 - (intOf vs).toNat)
  case atStart => exact ⟨k, k, 0, 0, t, 0, -1, rfl, rfl, rfl, rfl, rfl, H0, by omega, by omega, by omega, hide (.inl ⟨rfl, rfl, by omega⟩), rfl⟩
  case round =>
    obtain ⟨r, i, q, st, u, m, tk, rfl, rfl, rfl, rfl, rfl, HU, hq, hr, hst, HT, rfl⟩ := hrel
    obtain ⟨hi, hc⟩ := nm_cases b s i r q u (unhide HU) hq
    have hg0 := bt_get b i hi
    have hl0 := bt_lt b i
    clear HU
    rcases hc with ⟨c1, c2, c3, rfl⟩ | ⟨c1, c2, c3, rfl, u', c4⟩ | ⟨c1, c2, c3, c4, c5, u', rfl, c6⟩
    · rw [c1] at hg0
      have hg1 := bt_get s q hq
      rw [c3] at hg1
      rcases unhide HT with ⟨rfl, e1, e2⟩ | rfl
      · go_wp2_with fail
        go_ret
        exact ⟨ret_int (by omega), m, rfl⟩
      · go_wp2_with fail
        go_ret
        exact ⟨rfl, m, rfl⟩
    · have hg1 := bt_get b (i + 1) c2
      have hl1 := bt_lt b (i + 1)
      have C4 := hide c4
      clear c4
      generalize bt b i = x0 at *
      generalize bt b (i + 1) = x1 at *
      rcases unhide HT with ⟨rfl, e1, e2⟩ | rfl
      · go_wp2_with fail
        exact ⟨⟨256 * (x0 - 192) + x1, 256 * (x0 - 192) + x1, q, st + 1, u', m, t, by go_num, by go_num, rfl, by go_num, by go_num, C4, hq, by omega, by omega, hide (.inr rfl), rfl⟩, by simp [intOf]; omega⟩
      · go_wp2_with fail
        exact ⟨⟨256 * (x0 - 192) + x1, 256 * (x0 - 192) + x1, q, st + 1, u', m, t, by go_num, by go_num, rfl, rfl, by go_num, C4, hq, by omega, by omega, hide (.inr rfl), rfl⟩, by simp [intOf]; omega⟩
    · have C6 := hide c6
      clear c6
      generalize bt b i = x0 at *
      have d1 : decide ((b.size : Int) < (i : Int) + 1 + (x0 : Int)) = false := by simp; omega
      have d2 : decide ((s.size : Int) < (q : Int) + 1 + (x0 : Int)) = false := by simp; omega
      have n1 : ((i : Int) + 1 + (x0 : Int)).toNat = i + 1 + x0 := by omega
      have n2 : ((q : Int) + 1 + (x0 : Int)).toNat = q + 1 + x0 := by omega
      have hne : ((s.extract q (q + 1 + x0)).toList != (s.extract q (q + 1 + x0)).toList) = false := by simp
      go_wp2_with fail
      go_quiet (fail)
      go_wp2_with fail
      refine ⟨⟨r, i + 1 + x0, q + 1 + x0, st + 1, u', m + nq, tk, rfl, by go_num, by go_num, rfl, by go_num, C6, by omega, hr, by omega, hide ?_, rfl⟩, by simp [intOf]; omega⟩
      rcases unhide HT with ⟨e0, e1, e2⟩ | e0
      · exact .inl ⟨e0, by omega, by omega⟩
      · exact .inr e0

end Go.Proofs.Ytdhobdmhnocbgaa

namespace Go.Proofs.Ytdhobdmhnocbgaa
open Go.RowKit Zr

theorem names_pre (b : ByteArray) (k : Nat) : ∀ e j S P, namesTo b k (j + e) = .ok (S, P) → ∃ s p, namesTo b k j = .ok (s, p) ∧ Pre s S := by
  intro e
  induction e with
  | zero => intro j S P h; exact ⟨S, P, h, Pre.refl _⟩
  | succ e ih =>
    intro j S P h
    rw [← Nat.add_assoc, namesTo] at h
    cases h1 : namesTo b k (j + e) with
    | error x => rw [h1] at h; simp at h
    | ok q =>
      obtain ⟨s0, p0⟩ := q
      rw [h1] at h
      simp only at h
      cases h2 : nameAt b p0 with
      | error x => rw [h2] at h; simp at h
      | ok q2 =>
        obtain ⟨x, u⟩ := q2
        rw [h2] at h
        simp only [Except.ok.injEq, Prod.mk.injEq] at h
        obtain ⟨rfl, _⟩ := h
        obtain ⟨s, p, h3, h4⟩ := ih j s0 p0 h1
        exact ⟨s, p, h3, h4.trans (pre_append _ _)⟩

theorem names_next (b : ByteArray) (k m j : Nat) (hj : j < m) (S : ByteArray) (P : Nat) (h : namesTo b k m = .ok (S, P)) (s : ByteArray) (p : Nat) (h0 : namesTo b k j = .ok (s, p)) :
    ∃ x u, nameAt b p = .ok (x, u) ∧ namesTo b k (j + 1) = .ok (s ++ x, p + u) ∧ Pre (s ++ x) S := by
  obtain ⟨s', q', x, u, h1, h2⟩ := namesTo_ok b k m S P h j hj
  rw [h0] at h1
  simp only [Except.ok.injEq, Prod.mk.injEq] at h1
  obtain ⟨rfl, rfl⟩ := h1
  have h3 : namesTo b k (j + 1) = .ok (s ++ x, p + u) := by rw [namesTo, h0]; simp only; rw [h2]
  obtain ⟨s2, p2, h4, h5⟩ := names_pre b k (m - (j + 1)) (j + 1) S P (by rw [show j + 1 + (m - (j + 1)) = m by omega]; exact h)
  rw [h3] at h4
  simp only [Except.ok.injEq, Prod.mk.injEq] at h4
  obtain ⟨rfl, _⟩ := h4
  exact ⟨x, u, h2, h3, h5⟩

/-- What stands behind the names of data. -/
def TailOk (t : Nat) (r : ByteArray) : Prop :=
  (t = 1 → r.size = 4) ∧ (t = 28 → r.size = 16) ∧ (t = 6 → r.size = 20) ∧ (t = 2 ∨ t = 5 ∨ t = 12 → r.size = 0) ∧ (t = 33 → 7 ≤ r.size ∧ wholeB (r.extract 6 r.size) = true)

theorem wn_shape (b : ByteArray) (k n m more : Nat) (d : ByteArray) (h : wn b k n m more = some d) : ∃ S P, namesTo b k m = .ok (S, P) ∧ P + more = k + n ∧ d = S ++ b.extract P (k + n) := by
  unfold wn at h
  cases h1 : namesTo b k m with
  | error x => rw [h1] at h; simp at h
  | ok q =>
    obtain ⟨S, P⟩ := q
    rw [h1] at h
    simp only at h
    by_cases c : P + more = k + n
    · rw [if_pos c] at h
      simp only [Option.some.injEq] at h
      rw [c] at h
      exact ⟨S, P, rfl, c, h.symm⟩
    · rw [if_neg c] at h; simp at h

theorem data_shape (b : ByteArray) (k n t : Nat) (d : ByteArray) (hk : k + n ≤ b.size) (h : dataP b k n t = some d) :
    ∃ S P, namesTo b k (namesOf t) = .ok (S, P) ∧ P ≤ k + n ∧ d = S ++ b.extract P (k + n) ∧ TailOk t (b.extract P (k + n)) := by
  unfold dataP at h
  by_cases c1 : t = 2 ∨ t = 5 ∨ t = 12
  · rw [if_pos c1] at h
    obtain ⟨S, P, h1, h2, h3⟩ := wn_shape b k n 1 0 d h
    have e1 : namesOf t = 1 := by unfold namesOf; rw [if_pos c1]
    have e2 : (b.extract P (k + n)).size = 0 := by rw [ByteArray.size_extract]; omega
    exact ⟨S, P, by rw [e1]; exact h1, by omega, h3, by omega, by omega, by omega, fun _ => e2, by omega⟩
  · rw [if_neg c1] at h
    by_cases c2 : t = 6
    · rw [if_pos c2] at h
      obtain ⟨S, P, h1, h2, h3⟩ := wn_shape b k n 2 20 d h
      have e1 : namesOf t = 2 := by unfold namesOf; rw [if_neg c1, if_pos c2]
      have e2 : (b.extract P (k + n)).size = 20 := by rw [ByteArray.size_extract]; omega
      exact ⟨S, P, by rw [e1]; exact h1, by omega, h3, by omega, by omega, fun _ => e2, fun h => absurd h c1, by omega⟩
    · rw [if_neg c2] at h
      have e1 : namesOf t = 0 := by unfold namesOf; rw [if_neg c1, if_neg c2]
      by_cases c3 : flatB t (b.extract k (k + n)) = true
      · rw [if_pos c3] at h
        simp only [Option.some.injEq] at h
        refine ⟨⟨#[]⟩, k, by rw [e1]; rfl, by omega, by rw [empty_append, h], ?_, ?_, fun h => absurd h c2, fun h => absurd h c1, ?_⟩
        · intro ht
          subst ht
          have : ((b.extract k (k + n)).size == 4) = true := c3
          simpa using this
        · intro ht
          subst ht
          have : ((b.extract k (k + n)).size == 16) = true := c3
          simpa using this
        · intro ht
          subst ht
          have c4 : svcB (b.extract k (k + n)) = true := c3
          generalize b.extract k (k + n) = r at c4
          by_cases c5 : r.size < 6
          · rw [svc_short r c5] at c4; exact absurd c4 (by decide)
          · rw [svc_whole r (by omega)] at c4
            have := whole_pos c4
            rw [ByteArray.size_extract] at this
            exact ⟨by omega, c4⟩
      · rw [if_neg c3] at h; simp at h

theorem ext_sub (s : ByteArray) (k c d : Nat) (hk : k ≤ s.size) (hc : c ≤ d) (hd : k + d ≤ s.size) : (s.extract k s.size).extract c d = s.extract (k + c) (k + d) := by
  have h1 : (s.extract k s.size).size = s.size - k := by rw [ByteArray.size_extract]; omega
  have h2 : ((s.extract k s.size).extract c d).size = d - c := by rw [ByteArray.size_extract, h1]; omega
  have h3 : (s.extract (k + c) (k + d)).size = d - c := by rw [ByteArray.size_extract]; omega
  apply bt_ext
  · rw [h2, h3]
  · intro i hi
    rw [h2] at hi
    rw [bt_ex _ c d i (by omega) (by omega), bt_ex s k s.size (c + i) (by omega) (Nat.le_refl _), bt_ex s (k + c) (k + d) i (by omega) (by omega)]
    congr 1; omega

/-- What stands behind a part that stands at the front. -/
theorem Pre.rest {A x D : ByteArray} (h : Pre (A ++ x) D) : A.size + x.size ≤ D.size ∧ Pre x (D.extract A.size D.size) ∧ (D.extract A.size D.size).extract 0 x.size = x ∧ (D.extract A.size D.size).extract x.size (D.extract A.size D.size).size = D.extract (A ++ x).size D.size := by
  have h1 := h.1
  rw [ByteArray.size_append] at h1
  have hs : (D.extract A.size D.size).size = D.size - A.size := by rw [ByteArray.size_extract]; omega
  refine ⟨h1, ⟨by omega, fun i hi => ?_⟩, ?_, ?_⟩
  · rw [bt_ex _ _ _ i (by omega) (Nat.le_refl _), h.at i hi]
  · rw [ext_sub D A.size 0 x.size (by omega) (by omega) h1, Nat.add_zero]
    exact h.cut
  · rw [hs, ext_sub D A.size x.size (D.size - A.size) (by omega) (by omega) (by omega), ByteArray.size_append, show A.size + (D.size - A.size) = D.size by omega]

theorem ahead_nat (t : Nat) (w : World) :
    Calls Try.prog 130 #[.int .i64 t] w fun e w' => e = .returned (.int .i64 (namesOf t : Nat)) ∧ w' = w := by
  by_cases c1 : t = 2 ∨ t = 5 ∨ t = 12
  · have e1 : namesOf t = 1 := by unfold namesOf; rw [if_pos c1]
    rw [e1]
    rcases c1 with rfl | rfl | rfl
    all_goals
      go_enter Try.func130, Try.ntmps130
      go_wp2_with fail
      go_ret
      exact ⟨rfl, rfl⟩
  · by_cases c2 : t = 6
    · have e1 : namesOf t = 2 := by unfold namesOf; rw [if_neg c1, if_pos c2]
      rw [e1]
      subst c2
      go_enter Try.func130, Try.ntmps130
      go_wp2_with fail
      go_ret
      exact ⟨rfl, rfl⟩
    · have e1 : namesOf t = 0 := by unfold namesOf; rw [if_neg c1, if_neg c2]
      rw [e1]
      have d1 : ((t : Int) == 2) = false := beq_eq_false_iff_ne.2 (by omega)
      have d2 : ((t : Int) == 5) = false := beq_eq_false_iff_ne.2 (by omega)
      have d3 : ((t : Int) == 12) = false := beq_eq_false_iff_ne.2 (by omega)
      have d4 : ((t : Int) == 6) = false := beq_eq_false_iff_ne.2 (by omega)
      go_enter Try.func130, Try.ntmps130
      go_wp2_with fail
      go_ret
      exact ⟨rfl, rfl⟩

set_option maxRecDepth 100000 in
set_option maxHeartbeats 4000000 in
theorem filled_any (b d : ByteArray) (k n t : Nat) (v : Int) (w : World) (hb : b.size ≤ 65535) (hv : v = k) (hk : k + n ≤ b.size) (h : dataP b k n t = some d) :
    Calls Try.prog 95 #[.string b, .int .i64 v, .int .i64 n, .int .i64 t, .string d] w fun e w' => e = .returned (.bool true) ∧ ∃ m, w' = w.drewN m := by
  subst hv
  have hds := dataP_size b k n t hk d h
  obtain ⟨S, P, h1, h2, h3, h4⟩ := data_shape b k n t d hk h
  have hP : Pre S d := by rw [h3]; exact pre_append _ _
  have hr : d.extract S.size d.size = b.extract P (k + n) := by rw [h3]; exact extract_back _ _
  have hbd := namesTo_bounds b k (by omega) (namesOf t) S P h1
  have hn2 := namesOf_le t
  have keyA := fun W => ahead_nat t W
  have K := hide keyA
  have H1 := hide h1
  have HP := hide hP
  have HR := hide hr
  have H4 := hide h4
  clear h keyA h1 hP hr h4 h3
  generalize hm : namesOf t = m at *
  go_enter Try.func95, Try.ntmps95
  go_wp2_with fail
  refine (unhide K _).mono ?_
  rintro e w' ⟨rfl, rfl⟩
  go_wp2_with fail
  go_loopw [1, 4, 12] (fun va vd vk w'' => ∃ (j p z : Nat) (s : ByteArray), j ≤ m ∧ p ≤ b.size ∧ va = .int .i64 p ∧ vd = .string (d.extract s.size d.size) ∧ vk = .int .i64 ((m - j : Nat) : Int) ∧ Hid (namesTo b k j = .ok (s, p)) ∧ w'' = w'.drewN z) (fun _ _ vk _ => (intOf vk).toNat)
  case atStart => exact ⟨0, k, 0, ⟨#[]⟩, Nat.zero_le _, by omega, rfl, by show _ = Value.string (d.extract 0 d.size); rw [extract_all], rfl, hide rfl, rfl⟩
  case round =>
    obtain ⟨j, p, z, s, hj, hp, rfl, rfl, rfl, HN, rfl⟩ := hrel
    by_cases cj : j < m
    · obtain ⟨x, u, q1, q2, q3⟩ := names_next b k m j cj S P (unhide H1) s p (unhide HN)
      obtain ⟨r1, r2, r3, r4⟩ := (q3.trans (unhide HP)).rest
      have hx := name_whole b p x u q1
      obtain ⟨g1, g2, g3⟩ := nameAt_bounds b p x u q1
      have hxs := whole_pos hx
      have e0 : (d.extract s.size d.size).size = d.size - s.size := by rw [ByteArray.size_extract]; omega
      have key1 := fun W => first_any (d.extract s.size d.size) x W (by omega) hx r2
      have key2 := fun W => spelled_any b x p u p W hb rfl q1
      have K1 := hide key1
      have K2 := hide key2
      have Q2 := hide q2
      have R4 := hide r4
      have R3 := hide r3
      clear key1 key2 q1 q2 q3 r2 r3 r4 HN hx
      generalize d.extract s.size d.size = D at *
      have hpos : (0 : Int) < ((m - j : Nat) : Int) := by omega
      go_wp2_with fail
      refine (unhide K1 _).mono ?_
      rintro e w1 ⟨rfl, z1, rfl⟩
      have hr3 := unhide R3
      have hr4 := unhide R4
      have hDx : x.size ≤ D.size := by omega
      go_wp2_with fail
      refine (unhide K2 _).mono ?_
      rintro e w1 ⟨rfl, z2, rfl⟩
      go_wp2_with fail
      refine ⟨⟨j + 1, p + u, z + z1 + z2, s ++ x, by omega, by omega, by go_num, by rw [← unhide R4, e0], by go_num, Q2, rfl⟩, by simp [intOf]; omega⟩
    · have ej : j = m := by omega
      subst ej
      have hd := (unhide HN).symm.trans (unhide H1)
      simp only [Except.ok.injEq, Prod.mk.injEq] at hd
      obtain ⟨rfl, rfl⟩ := hd
      rw [unhide HR]
      have n1 : ((k : Int) + (n : Int)).toNat = k + n := by omega
      have d1 : decide ((k : Int) + (n : Int) < (p : Int)) = false := by simp; omega
      have hne : ((b.extract p (k + n)).toList != (b.extract p (k + n)).toList) = false := by simp
      obtain ⟨t1, t2, t3, t4, t5⟩ := unhide H4
      clear HN H1 HP HR H4 K
      by_cases c1 : t = 1
      · subst c1
        have e1 := t1 rfl
        clear t1 t2 t3 t4 t5
        go_wp2_with fail
        go_ret
        exact ⟨rfl, _, rfl⟩
      · by_cases c2 : t = 28
        · subst c2
          have e1 := t2 rfl
          clear t1 t2 t3 t4 t5
          go_wp2_with fail
          go_ret
          exact ⟨rfl, _, rfl⟩
        · by_cases c3 : t = 6
          · subst c3
            have e1 := t3 rfl
            clear t1 t2 t3 t4 t5
            go_wp2_with fail
            go_ret
            exact ⟨rfl, _, rfl⟩
          · by_cases c4 : t = 2 ∨ t = 5 ∨ t = 12
            · have e1 := t4 c4
              have er : b.extract p (k + n) = ⟨#[]⟩ := by
                apply bt_ext
                · rw [e1]; rfl
                · intro i hi; omega
              clear t1 t2 t3 t4 t5 e1 hne
              have hne : ((⟨#[]⟩ : ByteArray).toList != (⟨#[]⟩ : ByteArray).toList) = false := by simp
              rw [er]
              rcases c4 with rfl | rfl | rfl
              all_goals
                go_wp2_with fail
                go_ret
                exact ⟨rfl, _, rfl⟩
            · have d2 : ((t : Int) == 1) = false := beq_eq_false_iff_ne.2 (by omega)
              have d3 : ((t : Int) == 28) = false := beq_eq_false_iff_ne.2 (by omega)
              have d4 : ((t : Int) == 6) = false := beq_eq_false_iff_ne.2 (by omega)
              have d5 : ((t : Int) == 2) = false := beq_eq_false_iff_ne.2 (by omega)
              have d6 : ((t : Int) == 5) = false := beq_eq_false_iff_ne.2 (by omega)
              have d7 : ((t : Int) == 12) = false := beq_eq_false_iff_ne.2 (by omega)
              by_cases c5 : t = 33
              · obtain ⟨e1, e2⟩ := t5 c5
                have d8 : ((t : Int) == 33) = true := beq_iff_eq.2 (by omega)
                have ers : (b.extract p (k + n)).size ≤ b.size := by rw [ByteArray.size_extract]; omega
                have e3 : ((b.extract p (k + n)).extract 6 (b.extract p (k + n)).size).size = (b.extract p (k + n)).size - 6 := by rw [ByteArray.size_extract]; omega
                have key := fun W => first_any ((b.extract p (k + n)).extract 6 (b.extract p (k + n)).size) _ W (by omega) e2 (Pre.refl _)
                rw [e3] at key
                have K := hide key
                clear key t1 t2 t3 t4 t5 e2
                generalize hgr : b.extract p (k + n) = r at *
                have e4 : (((r.size - 6 : Nat) : Int) == (r.size : Int) - 6) = true := beq_iff_eq.2 (by omega)
                go_wp2_with fail
                refine (unhide K _).mono ?_
                rintro e w1 ⟨rfl, z2, rfl⟩
                go_wp2_with fail
                go_ret
                exact ⟨rfl, _, rfl⟩
              · have d8 : ((t : Int) == 33) = false := beq_eq_false_iff_ne.2 (by omega)
                clear t1 t2 t3 t4 t5
                go_wp2_with fail
                go_ret
                exact ⟨rfl, _, rfl⟩

end Go.Proofs.Ytdhobdmhnocbgaa

namespace Go.Proofs.Ytdhobdmhnocbgaa
open Go.RowKit Zr

theorem cell_ltK {w : World} {a : Addr} {v : Value} (h : w.cell? a = some v) : a.block < w.heap.size := by
  rcases Nat.lt_or_ge a.block w.heap.size with hb | hb
  · exact hb
  · simp [World.cell?, hb] at h

theorem rc_len (b : ByteArray) (part k : Nat) : ∀ m L P, rcTo b part k m = .ok (L, P) → L.length = m := by
  intro m
  induction m with
  | zero => intro L P h; simp only [rcTo, Except.ok.injEq, Prod.mk.injEq] at h; rw [← h.1]; rfl
  | succ m ih =>
    intro L P h
    rw [rcTo] at h
    cases h1 : rcTo b part k m with
    | error x => rw [h1] at h; simp at h
    | ok q =>
      obtain ⟨l, p⟩ := q
      rw [h1] at h
      simp only at h
      cases h2 : recordAt b p with
      | error x => rw [h2] at h; simp at h
      | ok q2 =>
        obtain ⟨x, p'⟩ := q2
        rw [h2] at h
        simp only at h
        split at h
        · simp at h
        · simp only [Except.ok.injEq, Prod.mk.injEq] at h
          rw [← h.1, List.length_append, ih l p h1]
          rfl

theorem rc_next (b : ByteArray) (part k : Nat) : ∀ m L P, rcTo b part k m = .ok (L, P) → ∀ j (hj : j < L.length), ∃ p p', rcTo b part k j = .ok (L.take j, p) ∧ recordAt b p = .ok (L[j], p') ∧ rcTo b part k (j + 1) = .ok (L.take (j + 1), p') ∧ misB (L.take j) L[j] part = false := by
  intro m
  induction m with
  | zero => intro L P h j hj; have := rc_len b part k 0 L P h; omega
  | succ m ih =>
    intro L P h j hj
    have hl := rc_len b part k (m + 1) L P h
    have h0 := h
    rw [rcTo] at h
    cases h1 : rcTo b part k m with
    | error x => rw [h1] at h; simp at h
    | ok q =>
      obtain ⟨l, p⟩ := q
      rw [h1] at h
      simp only at h
      cases h2 : recordAt b p with
      | error x => rw [h2] at h; simp at h
      | ok q2 =>
        obtain ⟨x, p'⟩ := q2
        rw [h2] at h
        simp only at h
        by_cases c : misB l x part = true
        · rw [if_pos c] at h; simp at h
        · rw [if_neg c] at h
          simp only [Except.ok.injEq, Prod.mk.injEq] at h
          obtain ⟨rfl, rfl⟩ := h
          have hll := rc_len b part k m l p h1
          by_cases cj : j < m
          · obtain ⟨p1, p2, g1, g2, g3, g4⟩ := ih l p h1 j (by omega)
            refine ⟨p1, p2, ?_, ?_, ?_, ?_⟩
            · rw [List.take_append_of_le_length (by omega)]; exact g1
            · rw [List.getElem_append_left (by omega)]; exact g2
            · rw [List.take_append_of_le_length (by omega)]; exact g3
            · rw [List.take_append_of_le_length (by omega), List.getElem_append_left (by omega)]; exact g4
          · have ej : j = m := by rw [List.length_append] at hl; simp at hl hj; omega
            subst ej
            have et : (l ++ [x]).take j = l := by rw [← hll]; simp
            have eg : (l ++ [x])[j] = x := by subst hll; simp
            refine ⟨p, p', by rw [et]; exact h1, by rw [eg]; exact h2, ?_, by rw [et, eg]; simpa using c⟩
            rw [List.take_of_length_le (by omega)]; exact h0

theorem qs_len (b : ByteArray) (k : Nat) : ∀ m L P, qsTo b k m = .ok (L, P) → L.length = m := by
  intro m
  induction m with
  | zero => intro L P h; simp only [qsTo, Except.ok.injEq, Prod.mk.injEq] at h; rw [← h.1]; rfl
  | succ m ih =>
    intro L P h
    rw [qsTo] at h
    cases h1 : qsTo b k m with
    | error x => rw [h1] at h; simp at h
    | ok q =>
      obtain ⟨l, p⟩ := q
      rw [h1] at h
      simp only at h
      cases h2 : questionAt b p with
      | error x => rw [h2] at h; simp at h
      | ok q2 =>
        obtain ⟨x, p'⟩ := q2
        rw [h2] at h
        simp only [Except.ok.injEq, Prod.mk.injEq] at h
        rw [← h.1, List.length_append, ih l p h1]
        rfl

theorem qs_next (b : ByteArray) (k : Nat) : ∀ m L P, qsTo b k m = .ok (L, P) → ∀ j (hj : j < L.length), ∃ p p', qsTo b k j = .ok (L.take j, p) ∧ questionAt b p = .ok (L[j], p') ∧ qsTo b k (j + 1) = .ok (L.take (j + 1), p') := by
  intro m
  induction m with
  | zero => intro L P h j hj; have := qs_len b k 0 L P h; omega
  | succ m ih =>
    intro L P h j hj
    have hl := qs_len b k (m + 1) L P h
    have h0 := h
    rw [qsTo] at h
    cases h1 : qsTo b k m with
    | error x => rw [h1] at h; simp at h
    | ok q =>
      obtain ⟨l, p⟩ := q
      rw [h1] at h
      simp only at h
      cases h2 : questionAt b p with
      | error x => rw [h2] at h; simp at h
      | ok q2 =>
        obtain ⟨x, p'⟩ := q2
        rw [h2] at h
        simp only [Except.ok.injEq, Prod.mk.injEq] at h
        obtain ⟨rfl, rfl⟩ := h
        have hll := qs_len b k m l p h1
        by_cases cj : j < m
        · obtain ⟨p1, p2, g1, g2, g3⟩ := ih l p h1 j (by omega)
          refine ⟨p1, p2, ?_, ?_, ?_⟩
          · rw [List.take_append_of_le_length (by omega)]; exact g1
          · rw [List.getElem_append_left (by omega)]; exact g2
          · rw [List.take_append_of_le_length (by omega)]; exact g3
        · have ej : j = m := by rw [List.length_append] at hl; simp at hl hj; omega
          subst ej
          have et : (l ++ [x]).take j = l := by rw [← hll]; simp
          have eg : (l ++ [x])[j] = x := by subst hll; simp
          refine ⟨p, p', by rw [et]; exact h1, by rw [eg]; exact h2, ?_⟩
          rw [List.take_of_length_le (by omega)]; exact h0

theorem rec_open (b : ByteArray) (p : Nat) (x : Rc) (p' : Nat) (h : recordAt b p = .ok (x, p')) :
    ∃ u, nameAt b p = .ok (x.name, u) ∧ p + u + 10 + num b (p + u + 8) 2 ≤ b.size ∧ p' = p + u + 10 + num b (p + u + 8) 2 ∧ x.ty = num b (p + u) 2 ∧ x.cl = num b (p + u + 2) 2 ∧ x.ttl = num b (p + u + 4) 4 ∧
      dataP b (p + u + 10) (num b (p + u + 8) 2) (num b (p + u) 2) = some x.data := by
  unfold recordAt at h
  cases h1 : nameAt b p with
  | error e => rw [h1] at h; simp at h
  | ok q =>
    obtain ⟨s, u⟩ := q
    rw [h1] at h
    simp only at h
    by_cases c : b.size < p + u + 10
    · rw [if_pos c] at h; simp at h
    · rw [if_neg c] at h
      by_cases c' : b.size < p + u + 10 + num b (p + u + 8) 2
      · rw [if_pos c'] at h; simp at h
      · rw [if_neg c'] at h
        cases h2 : dataP b (p + u + 10) (num b (p + u + 8) 2) (num b (p + u) 2) with
        | none => rw [h2] at h; simp at h
        | some d =>
          rw [h2] at h
          simp only [Except.ok.injEq, Prod.mk.injEq] at h
          obtain ⟨rfl, rfl⟩ := h
          exact ⟨u, rfl, by omega, rfl, rfl, rfl, rfl, h2⟩

theorem que_open (b : ByteArray) (p : Nat) (x : Qs) (p' : Nat) (h : questionAt b p = .ok (x, p')) :
    ∃ u, nameAt b p = .ok (x.name, u) ∧ p + u + 4 ≤ b.size ∧ p' = p + u + 4 ∧ x.ty = num b (p + u) 2 ∧ x.cl = num b (p + u + 2) 2 := by
  unfold questionAt at h
  cases h1 : nameAt b p with
  | error e => rw [h1] at h; simp at h
  | ok q =>
    obtain ⟨s, u⟩ := q
    rw [h1] at h
    simp only at h
    by_cases c : b.size < p + u + 4
    · rw [if_pos c] at h; simp at h
    · rw [if_neg c] at h
      simp only [Except.ok.injEq, Prod.mk.injEq] at h
      obtain ⟨rfl, rfl⟩ := h
      exact ⟨u, rfl, by omega, rfl, rfl, rfl⟩

set_option maxRecDepth 100000 in
set_option maxHeartbeats 4000000 in
theorem recorded_any (b : ByteArray) (L : List Rc) (part k P m : Nat) (a : Option Addr) (c N : Nat) (v : Int) (w : World) (hb : b.size ≤ 65535) (hv : v = k) (hk : k ≤ b.size) (h : rcTo b part k m = .ok (L, P)) (hrow : RowAt w N a (rcI (L.map Rc.int))) (hN : N ≤ w.heap.size) (hlen : L.length ≤ 65535) :
    Calls Try.prog 58 #[.string b, .int .i64 v, .slice a L.length c] w fun e w' => e = .returned (.int .i64 (P : Nat)) ∧ Below w.heap.size w w' := by
  subst hv
  have hll := rc_len b part k m L P h
  subst hll
  have hnext := rc_next b part k L.length L P h
  have HN := hide hnext
  have H := hide h
  have HRow := hide hrow
  clear hnext h hrow
  go_enter Try.func58, Try.ntmps58
  go_wp2_with fail
  go_loopw [1, 7] (fun va vi w' => ∃ (j p : Nat), j ≤ L.length ∧ p ≤ b.size ∧ va = .int .i64 p ∧ vi = .int .i64 j ∧ Hid (rcTo b part k j = .ok (L.take j, p)) ∧ Hid (Below w.heap.size w w')) (fun _ vi _ => L.length - (intOf vi).toNat)
  case atStart => exact ⟨0, k, Nat.zero_le _, hk, rfl, rfl, hide rfl, hide (Below.refl _ _)⟩
  case round =>
    obtain ⟨j, p, hj, hp, rfl, rfl, HJ, HB⟩ := hrel
    by_cases cj : j < L.length
    · obtain ⟨p1, p2, g1, g2, g3, _⟩ := unhide HN j cj
      rw [unhide HJ] at g1
      simp only [Except.ok.injEq, Prod.mk.injEq, true_and] at g1
      subst g1
      obtain ⟨u, q1, q2, q3, q4, q5, q6, q7⟩ := rec_open b p L[j] p2 g2
      have hr := row_r ((unhide HRow).below ((unhide HB).mono hN)) j (by simpa using cj)
      have ej : (L.map Rc.int)[j]'(by simpa using cj) = L[j].int := by simp
      rw [ej] at hr
      obtain ⟨bb, o, rfl, hbb, x0, x1, x2, x3, x4⟩ := hr
      have y0 : L[j].int.name = L[j].name := rfl
      have y1 : L[j].int.ty = ((num b (p + u) 2 : Nat) : Int) := by rw [← q4]; rfl
      have y2 : L[j].int.cl = ((num b (p + u + 2) 2 : Nat) : Int) := by rw [← q5]; rfl
      have y3 : L[j].int.ttl = 65536 * ((num b (p + u + 4) 2 : Nat) : Int) + ((num b (p + u + 6) 2 : Nat) : Int) := by
        show ((L[j].ttl : Nat) : Int) = _
        rw [q6, num4, show p + u + 4 + 2 = p + u + 6 by omega]
        omega
      have y4 : L[j].int.data = L[j].data := rfl
      rw [y0] at x0
      rw [y1] at x1
      rw [y2] at x2
      rw [y3] at x3
      rw [y4] at x4
      have z0 := num_lt2 b (p + u)
      have z1 := num_lt2 b (p + u + 2)
      have z2 := num_lt2 b (p + u + 4)
      have z3 := num_lt2 b (p + u + 6)
      have z4 := num_lt2 b (p + u + 8)
      have k0 := fun W => spelled_any b L[j].name p u p W hb rfl q1
      have k1 := fun W (v : Int) hv => two_any b (p + u) v W hb hv (by omega)
      have k2 := fun W (v : Int) hv => two_any b (p + u + 2) v W hb hv (by omega)
      have k3 := fun W (v : Int) hv => two_any b (p + u + 4) v W hb hv (by omega)
      have k4 := fun W (v : Int) hv => two_any b (p + u + 6) v W hb hv (by omega)
      have k5 := fun W (v : Int) hv => two_any b (p + u + 8) v W hb hv (by omega)
      have k6 := fun W (v : Int) hv => filled_any b L[j].data (p + u + 10) (num b (p + u + 8) 2) (num b (p + u) 2) v W hb hv (by omega) q7
      have hlt := cell_ltK x0
      have K0 := hide k0
      have K1 := hide k1
      have K2 := hide k2
      have K3 := hide k3
      have K4 := hide k4
      have K5 := hide k5
      have K6 := hide k6
      have G3 := hide g3
      clear k0 k1 k2 k3 k4 k5 k6 g3 g2 q1 q4 q5 q6 q7 y0 y1 y2 y3 y4 ej HN HRow
      generalize L[j].name = nm at *
      generalize L[j].data = dt at *
      generalize num b (p + u) 2 = n0 at *
      generalize num b (p + u + 2) 2 = n1 at *
      generalize num b (p + u + 4) 2 = n2 at *
      generalize num b (p + u + 6) 2 = n3 at *
      generalize num b (p + u + 8) 2 = n4 at *
      have hA := (unhide HB).alloc (unhide HB).size (.cells #[.string nm, .int .i64 n0, .int .i64 n1, .int .i64 (65536 * (n2 : Int) + (n3 : Int)), .string dt] 86)
      have HA := hide hA
      clear hA HB
      go_wp2_with fail
      refine (unhide K0 _).mono ?_
      rintro e w1 ⟨rfl, m0, rfl⟩
      have g0 : decide ((u : Int) < 0) = false := by simp
      go_wp2_with fail
      refine (unhide K1 _ _ (by omega)).mono ?_
      rintro e w1 ⟨rfl, m1, rfl⟩
      go_wp2_with fail
      refine (unhide K2 _ _ (by omega)).mono ?_
      rintro e w1 ⟨rfl, m2, rfl⟩
      go_wp2_with fail
      refine (unhide K3 _ _ (by omega)).mono ?_
      rintro e w1 ⟨rfl, m3, rfl⟩
      go_wp2_with fail
      refine (unhide K4 _ _ (by omega)).mono ?_
      rintro e w1 ⟨rfl, m4, rfl⟩
      go_wp2_with fail
      refine (unhide K5 _ _ (by omega)).mono ?_
      rintro e w1 ⟨rfl, m5, rfl⟩
      have g1 : decide ((n4 : Int) < 0) = false := by simp
      have g2 : ((n0 : Int) != (n0 : Int)) = false := by simp
      have g3 : ((n1 : Int) != (n1 : Int)) = false := by simp
      have g4 : (65536 * (n2 : Int) + (n3 : Int) != 65536 * (n2 : Int) + (n3 : Int)) = false := by simp
      have g5 : decide ((b.size : Int) < (p : Int) + (u : Int) + 10 + (n4 : Int)) = false := by simp; omega
      go_wp2_with fail
      refine (unhide K6 _ _ (by omega)).mono ?_
      rintro e w1 ⟨rfl, m6, rfl⟩
      go_wp2_with fail
      exact ⟨⟨j + 1, p2, by omega, by omega, by go_num, by go_num, G3, hide (below_drewK (unhide HA) _)⟩, by simp [intOf]; omega⟩
    · have ej : j = L.length := by omega
      subst ej
      have e1 := unhide HJ
      rw [List.take_length, unhide H] at e1
      simp only [Except.ok.injEq, Prod.mk.injEq, true_and] at e1
      subst e1
      go_wp2_with fail
      go_ret
      exact ⟨rfl, unhide HB⟩

theorem parse_open (b : ByteArray) (m : Msg) (h : parseP b = .ok m) : b.size ≤ 65535 ∧ 12 ≤ b.size ∧ m.id = num b 0 2 ∧ m.flags = num b 2 2 ∧ num b 4 2 = m.q.length ∧ num b 6 2 = m.a.length ∧ num b 8 2 = m.u.length ∧ num b 10 2 = m.x.length ∧
    ∃ p1 p2 p3, qsTo b 12 m.q.length = .ok (m.q, p1) ∧ rcTo b 0 p1 m.a.length = .ok (m.a, p2) ∧ rcTo b 1 p2 m.u.length = .ok (m.u, p3) ∧ rcTo b 2 p3 m.x.length = .ok (m.x, b.size) := by
  unfold parseP at h
  by_cases c1 : 65535 < b.size
  · rw [if_pos c1] at h; simp at h
  rw [if_neg c1] at h
  by_cases c2 : b.size < 12
  · rw [if_pos c2] at h; simp at h
  rw [if_neg c2] at h
  cases h1 : qsTo b 12 (num b 4 2) with
  | error e => rw [h1] at h; simp at h
  | ok r1 =>
    obtain ⟨q, p1⟩ := r1
    rw [h1] at h
    simp only at h
    cases h2 : rcTo b 0 p1 (num b 6 2) with
    | error e => rw [h2] at h; simp at h
    | ok r2 =>
      obtain ⟨a, p2⟩ := r2
      rw [h2] at h
      simp only at h
      cases h3 : rcTo b 1 p2 (num b 8 2) with
      | error e => rw [h3] at h; simp at h
      | ok r3 =>
        obtain ⟨u, p3⟩ := r3
        rw [h3] at h
        simp only at h
        cases h4 : rcTo b 2 p3 (num b 10 2) with
        | error e => rw [h4] at h; simp at h
        | ok r4 =>
          obtain ⟨x, p4⟩ := r4
          rw [h4] at h
          simp only at h
          by_cases c3 : p4 ≠ b.size
          · rw [if_pos c3] at h; simp at h
          · rw [if_neg c3] at h
            simp only [Except.ok.injEq] at h
            subst h
            have l1 := qs_len _ _ _ _ _ h1
            have l2 := rc_len _ _ _ _ _ _ h2
            have l3 := rc_len _ _ _ _ _ _ h3
            have l4 := rc_len _ _ _ _ _ _ h4
            have e4 : p4 = b.size := by omega
            subst e4
            exact ⟨by omega, by omega, rfl, rfl, l1.symm, l2.symm, l3.symm, l4.symm, p1, p2, p3, by rw [l1]; exact h1, by rw [l2]; exact h2, by rw [l3]; exact h3, by rw [l4]; exact h4⟩

theorem rc_place (b : ByteArray) (part k : Nat) (hk : k ≤ b.size) : ∀ m L P, rcTo b part k m = .ok (L, P) → P ≤ b.size := by
  intro m
  cases m with
  | zero => intro L P h; simp only [rcTo, Except.ok.injEq, Prod.mk.injEq] at h; omega
  | succ m =>
    intro L P h
    have hl := rc_len b part k (m + 1) L P h
    obtain ⟨p, p', h1, h2, h3, _⟩ := rc_next b part k (m + 1) L P h m (by omega)
    rw [List.take_of_length_le (by omega), h] at h3
    simp only [Except.ok.injEq, Prod.mk.injEq, true_and] at h3
    have := (recordAt_bounds b p _ p' h2).2.1
    omega
theorem qs_place (b : ByteArray) (k : Nat) (hk : k ≤ b.size) : ∀ m L P, qsTo b k m = .ok (L, P) → P ≤ b.size := by
  intro m
  cases m with
  | zero => intro L P h; simp only [qsTo, Except.ok.injEq, Prod.mk.injEq] at h; omega
  | succ m =>
    intro L P h
    have hl := qs_len b k (m + 1) L P h
    obtain ⟨p, p', h1, h2, h3⟩ := qs_next b k (m + 1) L P h m (by omega)
    rw [List.take_of_length_le (by omega), h] at h3
    simp only [Except.ok.injEq, Prod.mk.injEq, true_and] at h3
    have := (questionAt_bounds b p _ p' h2).2.1
    omega

end Go.Proofs.Ytdhobdmhnocbgaa

namespace Go.Proofs.Ytdhobdmhnocbgaa
open Go.RowKit Zr

theorem blk_alloc {w : World} {k : Nat} {o : Obj} (h : w.heap[k]? = some o) (O : Obj) : (w.alloc O).heap[k]? = some o :=
  (((Below.refl w.heap.size w).alloc (Nat.le_refl _) O).block k (blk_lt h)).trans h

set_option maxRecDepth 100000 in
set_option maxHeartbeats 1000000 in
theorem spells_any (b : ByteArray) (m : Msg) (v : Value) (N : Nat) (w : World) (h : parseP b = .ok m) (hm : MsgAt w N v m.int) (hN : N ≤ w.heap.size) :
    Calls Try.prog 21 #[.string b, v] w fun e w' => e = .returned (.bool true) ∧ Below w.heap.size w w' := by
  obtain ⟨hb, h12, i1, i2, l1, l2, l3, l4, p1, p2, p3, r1, r2, r3, r4⟩ := parse_open b m h
  obtain ⟨a1, c1, a2, c2, a3, c3, a4, c4, rfl, o1, o2, o3, o4, _⟩ := hm
  have z1 := num_lt2 b 4
  have z2 := num_lt2 b 6
  have z3 := num_lt2 b 8
  have z4 := num_lt2 b 10
  obtain ⟨r, hr⟩ : ∃ r : Int → Nat, ∀ v, r v = num b v.toNat 2 := ⟨_, fun _ => rfl⟩
  have tt : ∀ W (v : Int), 0 ≤ v → v ≤ 10 → Calls Try.prog 56 #[.string b, .int .i64 v] W fun e w' => e = .returned (.int .i64 (r v : Nat)) ∧ ∃ n, w' = W.drewN n := fun W v h1 h2 => by
    rw [hr]
    exact two_any b v.toNat v W hb (by omega) (by omega)
  have e0 : r 0 = m.id := by rw [hr, i1]; rfl
  have e1 : r 2 = m.flags := by rw [hr, i2]; rfl
  have e2 : r 4 = m.q.length := by rw [hr, ← l1]; rfl
  have e3 : r 6 = m.a.length := by rw [hr, ← l2]; rfl
  have e4 : r 8 = m.u.length := by rw [hr, ← l3]; rfl
  have e5 : r 10 = m.x.length := by rw [hr, ← l4]; rfl
  clear hr
  rw [l1] at z1
  rw [l2] at z2
  rw [l3] at z3
  rw [l4] at z4
  clear i1 i2 l1 l2 l3 l4 h
  obtain ⟨id, fl, q, a, u, x⟩ := m
  simp only [Msg.int, List.length_map] at *
  have hp1 := qs_place b 12 h12 _ _ _ r1
  have hp2 := rc_place b 0 p1 hp1 _ _ _ r2
  have hp3 := rc_place b 1 p2 hp2 _ _ _ r3
  have hnext := qs_next b 12 q.length q p1 r1
  have s2 := fun W (hb' : Below w.heap.size w W) => recorded_any b a 0 p1 p2 a.length a2 c2 N p1 W hb rfl hp1 r2 (o2.below (hb'.mono hN)) (by have := hb'.size; omega) (by omega)
  have s3 := fun W (hb' : Below w.heap.size w W) => recorded_any b u 1 p2 p3 u.length a3 c3 N p2 W hb rfl hp2 r3 (o3.below (hb'.mono hN)) (by have := hb'.size; omega) (by omega)
  have s4 := fun W (hb' : Below w.heap.size w W) => recorded_any b x 2 p3 b.size x.length a4 c4 N p3 W hb rfl hp3 r4 (o4.below (hb'.mono hN)) (by have := hb'.size; omega) (by omega)
  have row1 := fun W (hb' : Below w.heap.size w W) => o1.below (hb'.mono hN)
  have TT := hide tt
  have S2 := hide s2
  have S3 := hide s3
  have S4 := hide s4
  have Row1 := hide row1
  have HN := hide hnext
  have R1 := hide r1
  clear tt s2 s3 s4 row1 hnext r1 r2 r3 r4 o1 o2 o3 o4
  obtain ⟨M, hM⟩ : ∃ M, w.heap.size = M := ⟨_, rfl⟩
  obtain ⟨O, hO⟩ : ∃ O, O = Obj.cells #[.int .i64 id, .int .i64 fl, .slice a1 q.length c1, .slice a2 a.length c2, .slice a3 u.length c3, .slice a4 x.length c4] 25 := ⟨_, rfl⟩
  have hB0 : Below M w (w.alloc O) := (Below.refl _ _).alloc (by omega) _
  have hX := heap_alloc_new w O
  rw [hM] at hX S2 S3 S4 Row1 ⊢
  rw [hO] at hB0 hX
  clear hO O
  have HX := hide hX
  have HB := hide hB0
  clear hX hB0
  have g0 : ((id : Int) != (id : Int)) = false := by simp
  have g1 : ((fl : Int) != (fl : Int)) = false := by simp
  have g2 : ((q.length : Int) != (q.length : Int)) = false := by simp
  have g3 : ((a.length : Int) != (a.length : Int)) = false := by simp
  have g4 : ((u.length : Int) != (u.length : Int)) = false := by simp
  have g5 : ((x.length : Int) != (x.length : Int)) = false := by simp
  go_enter Try.func21, Try.ntmps21
  go_wp2_with fail
  go_quiet ((go_at_call 56; exact Calls.quiet_of (unhide TT _ _ (by decide) (by decide))))
  go_wp2_with fail
  clear e0 e1 e2 e3 e4 e5 g0 g1 g2 g3 g4 g5
  go_loopw [5, 6] (fun va vi w' => ∃ (j p : Nat), j ≤ q.length ∧ p ≤ b.size ∧ va = .int .i64 p ∧ vi = .int .i64 j ∧ Hid (qsTo b 12 j = .ok (q.take j, p)) ∧ Hid (w'.heap[M]? = some (.cells #[.int .i64 id, .int .i64 fl, .slice a1 q.length c1, .slice a2 a.length c2, .slice a3 u.length c3, .slice a4 x.length c4] 25)) ∧ Hid (Below M w w')) (fun _ vi _ => q.length - (intOf vi).toNat)
  case atStart => exact ⟨0, 12, Nat.zero_le _, h12, rfl, rfl, hide rfl, HX, hide (below_drewK (unhide HB) _)⟩
  case round =>
    clear HX HB
    obtain ⟨j, p, hj, hp, rfl, rfl, HJ, HX, HB⟩ := hrel
    by_cases cj : j < q.length
    · obtain ⟨p', p'', g1, g2, g3⟩ := unhide HN j cj
      rw [unhide HJ] at g1
      simp only [Except.ok.injEq, Prod.mk.injEq, true_and] at g1
      subst g1
      obtain ⟨n, q1, q2, q3, q4, q5⟩ := que_open b p q[j] p'' g2
      have hr := row_q (unhide Row1 _ (unhide HB)) j (by simpa using cj)
      have ej : (q.map Qs.int)[j]'(by simpa using cj) = q[j].int := by simp
      rw [ej] at hr
      obtain ⟨bb, o, rfl, hbb, x0, x1, x2⟩ := hr
      have y0 : q[j].int.name = q[j].name := rfl
      have y1 : q[j].int.ty = ((q[j].ty : Nat) : Int) := rfl
      have y2 : q[j].int.cl = ((q[j].cl : Nat) : Int) := rfl
      rw [y0] at x0
      rw [y1] at x1
      rw [y2] at x2
      have k0 := fun W => spelled_any b q[j].name p n p W hb rfl q1
      obtain ⟨rr, hrr⟩ : ∃ rr : Int → Nat, ∀ v, rr v = num b v.toNat 2 := ⟨_, fun _ => rfl⟩
      have k1 : ∀ W (v : Int), 0 ≤ v → v + 2 ≤ b.size → Calls Try.prog 56 #[.string b, .int .i64 v] W fun e w' => e = .returned (.int .i64 (rr v : Nat)) ∧ ∃ n, w' = W.drewN n := fun W v h1 h2 => by
        rw [hrr]
        exact two_any b v.toNat v W hb (by omega) (by omega)
      have e1 : rr ((p : Int) + (n : Int)) = q[j].ty := by rw [hrr, q4]; congr 1
      have e2 : rr ((p : Int) + (n : Int) + 2) = q[j].cl := by rw [hrr, q5]; congr 1
      have hlt := cell_ltK x0
      have K0 := hide k0
      have K1 := hide k1
      have G3 := hide g3
      clear k0 k1 g3 g2 q1 q4 q5 y0 y1 y2 ej hrr HN
      generalize q[j].name = nm at *
      generalize q[j].ty = ty at *
      generalize q[j].cl = cl at *
      have hA := (unhide HB).alloc (by have := (unhide HB).size; omega) (.cells #[.string nm, .int .i64 ty, .int .i64 cl] 74)
      have hX2 := blk_alloc (unhide HX) (.cells #[.string nm, .int .i64 ty, .int .i64 cl] 74)
      obtain ⟨⟨b0, b1, b2, b3, b4, b5⟩, _⟩ := cells6 (unhide HX)
      have HA := hide hA
      have HX2 := hide hX2
      clear hA hX2 HB HX
      go_wp2_with fail
      refine (unhide K0 _).mono ?_
      rintro e w1 ⟨rfl, m0, rfl⟩
      have g0 : decide ((n : Int) < 0) = false := by simp
      have g1 : ((ty : Int) != (ty : Int)) = false := by simp
      have g2 : ((cl : Int) != (cl : Int)) = false := by simp
      go_wp2_with fail
      go_quiet ((go_at_call 56; exact quiet_more (unhide K1 _ _ (by omega) (by omega))))
      go_wp2_with fail
      exact ⟨⟨j + 1, p'', by omega, by omega, by go_num, by go_num, G3, HX2, hide (below_drewK (unhide HA) _)⟩, by simp [intOf]; omega⟩
    · have ej : j = q.length := by omega
      subst ej
      have e1 := unhide HJ
      rw [List.take_length, unhide R1] at e1
      simp only [Except.ok.injEq, Prod.mk.injEq, true_and] at e1
      subst e1
      obtain ⟨⟨b0, b1, b2, b3, b4, b5⟩, _⟩ := cells6 (unhide HX)
      go_wp2_with fail
      refine (unhide S2 _ (unhide HB)).mono ?_
      rintro e w2 ⟨rfl, hb2⟩
      have HX2 := hide ((hb2.block M (blk_lt (unhide HX))).trans (unhide HX))
      have HB2 := hide ((unhide HB).trans (hb2.mono (by have := (unhide HB).size; omega)))
      clear b0 b1 b2 b3 b4 b5 HX HB hb2
      obtain ⟨⟨b0, b1, b2, b3, b4, b5⟩, _⟩ := cells6 (unhide HX2)
      go_wp2_with fail
      refine (unhide S3 _ (unhide HB2)).mono ?_
      rintro e w3 ⟨rfl, hb3⟩
      have HX3 := hide ((hb3.block M (blk_lt (unhide HX2))).trans (unhide HX2))
      have HB3 := hide ((unhide HB2).trans (hb3.mono (by have := (unhide HB2).size; omega)))
      clear b0 b1 b2 b3 b4 b5 HX2 HB2 hb3
      obtain ⟨⟨b0, b1, b2, b3, b4, b5⟩, _⟩ := cells6 (unhide HX3)
      go_wp2_with fail
      refine (unhide S4 _ (unhide HB3)).mono ?_
      rintro e w4 ⟨rfl, hb4⟩
      have HB4 := hide ((unhide HB3).trans (hb4.mono (by have := (unhide HB3).size; omega)))
      clear b0 b1 b2 b3 b4 b5 HX3 HB3 hb4
      have g1 : ((b.size : Int) == (b.size : Int)) = true := by simp
      go_wp2_with fail
      go_ret
      exact ⟨rfl, unhide HB4⟩

end Go.Proofs.Ytdhobdmhnocbgaa

namespace Go.Proofs.Ytdhobdmhnocbgaa
open Go.RowKit Zr

theorem own_row {w : World} {N : Nat} {e : TypeId} {size : Nat} {a : Option Addr} {n c : Nat} {xs : List Value} (h : w.ownsRow N e size (.slice a n c) n xs) : RowAt w w.heap.size a xs ∧ n ≤ c := by
  obtain ⟨h0, h⟩ := h
  rcases h with ⟨h1, h2⟩ | ⟨g, cap, cur, h1, h2, h3, h4, h5, h6, h7⟩
  · subst h2
    refine ⟨fun hx => absurd (List.length_eq_zero_iff.1 (by rw [h0, Nat.zero_mul])) hx, Nat.zero_le _⟩
  · simp only [Value.slice.injEq, true_and] at h1
    obtain ⟨rfl, rfl⟩ := h1
    refine ⟨fun hx => ⟨g, 0, rfl, blk_lt h3, fun j u hu => ?_⟩, h4⟩
    rw [Nat.zero_add, cell_of_blk h3, ← hu, ← h7]
    have hj := (List.getElem?_eq_some_iff.1 hu).1
    rw [List.getElem?_take, if_pos (by omega)]
    simp

theorem qcells_int (l : List Qs) : qcells l = qcI (l.map Qs.int) := by
  induction l with
  | nil => rfl
  | cons x l ih =>
    show _ :: _ :: _ :: qcells l = _ :: _ :: _ :: qcI (l.map Qs.int)
    rw [ih]
    rfl
theorem rcells_int (l : List Rc) : rcells l = rcI (l.map Rc.int) := by
  induction l with
  | nil => rfl
  | cons x l ih =>
    show _ :: _ :: _ :: _ :: _ :: rcells l = _ :: _ :: _ :: _ :: _ :: rcI (l.map Rc.int)
    rw [ih]
    rfl

theorem msgOk_sized {m : MI} (h : msgOk m) : QSized m.q ∧ RSized m.a ∧ RSized m.u ∧ RSized m.x := by
  obtain ⟨sq, sr⟩ := MsgAt.sizes h
  refine ⟨fun i hi => ?_, fun i hi => ?_, fun i hi => ?_, fun i hi => ?_⟩
  · have := sq i hi; omega
  · have := sr m.a (.inl rfl) i hi; omega
  · have := sr m.u (.inr (.inl rfl)) i hi; omega
  · have := sr m.x (.inr (.inr rfl)) i hi; omega

/-- A message that came out, read where it lies. -/
theorem msgIs_at {w : World} {N : Nat} {v : Value} {m : Msg} (h : MsgIs w N v m) (hok : msgOk m.int) : MsgAt w w.heap.size v m.int := by
  obtain ⟨z1, z2, z3, z4⟩ := msgOk_sized hok
  obtain ⟨a1, c1, a2, c2, a3, c3, a4, c4, rfl, o1, o2, o3, o4, _⟩ := h
  rw [qcells_int] at o1
  rw [rcells_int] at o2 o3 o4
  obtain ⟨r1, k1⟩ := own_row o1
  obtain ⟨r2, k2⟩ := own_row o2
  obtain ⟨r3, k3⟩ := own_row o3
  obtain ⟨r4, k4⟩ := own_row o4
  refine ⟨a1, c1, a2, c2, a3, c3, a4, c4, ?_, r1, r2, r3, r4, z1, z2, z3, z4, ?_, ?_, ?_, ?_⟩
  · simp only [Msg.int, List.length_map]
  all_goals simpa [Msg.int] using by assumption

theorem map_same {α : Type} {f : α → α} (l : List α) (h : ∀ x, x ∈ l → f x = x) : l.map f = l := by
  induction l with
  | nil => rfl
  | cons x l ih => rw [List.map_cons, h x (by simp), ih (fun y hy => h y (List.mem_cons_of_mem _ hy))]

theorem int_of_nat {m : MI} (h : msgOk m) : m.nat.int = m := by
  obtain ⟨m1, m2, mq, ma, mu, mx⟩ := h
  obtain ⟨id, fl, q, a, u, x⟩ := m
  simp only at m1 m2 mq ma mu mx
  have hq : ∀ y, y ∈ q → y.nat.int = y := fun y hy => by
    obtain ⟨_, ⟨k1, _⟩, k2, _⟩ := ques_mem mq y hy
    obtain ⟨n, t, c⟩ := y
    simp only at k1 k2
    simp only [QI.nat, Qs.int, Int.toNat_of_nonneg k1, Int.toNat_of_nonneg k2]
  have hr : ∀ l part, partOk l part → ∀ y, y ∈ l → y.nat.int = y := fun l part hl y hy => by
    obtain ⟨_, ⟨k1, _⟩, ⟨k2, _⟩, ⟨k3, _⟩, _⟩ := part_mem hl y hy
    obtain ⟨n, t, c, tt, d⟩ := y
    simp only at k1 k2 k3
    simp only [RI.nat, Rc.int, Int.toNat_of_nonneg k1, Int.toNat_of_nonneg k2, Int.toNat_of_nonneg k3]
  show (⟨(id.toNat : Int), (fl.toNat : Int), (q.map QI.nat).map Qs.int, (a.map RI.nat).map Rc.int, (u.map RI.nat).map Rc.int, (x.map RI.nat).map Rc.int⟩ : MI) = _
  rw [Int.toNat_of_nonneg m1.1, Int.toNat_of_nonneg m2.1, List.map_map, List.map_map, List.map_map, List.map_map]
  rw [map_same (f := Qs.int ∘ QI.nat) q hq, map_same (f := Rc.int ∘ RI.nat) a (hr a 0 ma), map_same (f := Rc.int ∘ RI.nat) u (hr u 1 mu), map_same (f := Rc.int ∘ RI.nat) x (hr x 2 mx)]

set_option maxRecDepth 100000 in
set_option maxHeartbeats 2000000 in
theorem back_any (m : MI) (v : Value) (w : World) (hm : MsgAt w w.heap.size v m) (hok : msgOk m) :
    Calls Try.prog 17 #[v] w fun e w' => e = .returned (.bool true) ∧ Below w.heap.size w w' := by
  obtain ⟨N, hN⟩ : ∃ N, w.heap.size = N := ⟨_, rfl⟩
  rw [hN] at hm ⊢
  have k1 := fun W (hb : Below N w W) => zoneSerialize_any m v W ((hm.below hb).mono (by have := hb.size; omega))
  have k2 := fun W (hb : Below N w W) => size_any m v N W (hm.below hb) (by have := hb.size; omega) hok
  have k3 := fun W (hb : Below N w W) v' N' (h' : MsgAt W N' v' m) (hl : N' ≤ W.heap.size) => sameMessageK m v' v N' N W h' (hm.below hb) (msgOk_short hok) hl (by have := hb.size; omega)
  have hle := writ_le m hok
  have hbk := parse_writ m hok
  have hin := int_of_nat hok
  obtain ⟨a1, c1, a2, c2, a3, c3, a4, c4, rfl, _⟩ := hm
  have K1 := hide k1
  have K2 := hide k2
  have K3 := hide k3
  have HBK := hide hbk
  have HIN := hide hin
  have HOK := hide hok
  clear k1 k2 k3 hbk hin hok
  obtain ⟨O, hO⟩ : ∃ O, O = Obj.cells #[.int .i64 m.id, .int .i64 m.flags, .slice a1 m.q.length c1, .slice a2 m.a.length c2, .slice a3 m.u.length c3, .slice a4 m.x.length c4] 25 := ⟨_, rfl⟩
  have hB0 : Below N w (w.alloc O) := (Below.refl _ _).alloc (by omega) _
  have hX := heap_alloc_new w O
  rw [hN] at hX
  rw [hO] at hB0 hX
  clear hO O
  go_enter Try.func17, Try.ntmps17
  have HX := hide hX
  clear hX
  go_wp2_with fail
  refine (unhide K1 _ hB0).mono ?_
  rintro e w1 ⟨⟨s, x, rfl, hser⟩, hb1⟩
  have hB1 := hB0.trans (hb1.mono (by have := hB0.size; omega))
  have HX1 := hide ((hb1.block N (blk_lt (unhide HX))).trans (unhide HX))
  clear hb1 HX
  obtain ⟨⟨b0, b1, b2, b3, b4, b5⟩, _⟩ := cells6 (unhide HX1)
  go_wp2_with fail
  refine (unhide K2 _ hB1).mono ?_
  rintro e w2 ⟨rfl, hb2⟩
  have hB2 := hB1.trans (hb2.mono (by have := hB1.size; omega))
  have HX2 := hide ((hb2.block N (blk_lt (unhide HX1))).trans (unhide HX1))
  clear hb2 HX1 b0 b1 b2 b3 b4 b5
  generalize whl m = n at *
  generalize hW : (writ m.nat).1 = B at *
  rcases hser with ⟨h1, _⟩ | ⟨_, h2, rfl, rfl⟩ | ⟨_, h2, rfl, rfl⟩
  · exact absurd (unhide HOK) h1
  · rw [hW] at h2
    have hn : (65535 : Int) < (n : Int) := by omega
    have hd : decide ((65535 : Int) < (n : Int)) = true := by simpa using hn
    go_wp2_with fail
    go_ret
    exact ⟨rfl, hB2⟩
  · rw [hW] at h2
    subst hW
    have hz : (writ m.nat).1.size ≤ 65535 := by omega
    have hps := zoneParse_any (writ m.nat).1 w2 (by unfold maxLen; omega)
    rw [unhide HBK hz] at hps
    have HPS := hide hps
    clear hps HBK
    generalize (writ m.nat).1 = B at *
    go_wp2_with fail
    refine (unhide HPS).mono ?_
    rintro e w3 ⟨v', rfl, hmi, hb3⟩
    have hmi' : MsgIs w3 w2.heap.size v' m.nat := hmi
    have hma := msgIs_at hmi' (by rw [unhide HIN]; exact unhide HOK)
    rw [unhide HIN] at hma
    have hB3 := hB2.trans (hb3.mono (by have := hB2.size; omega))
    have HX3 := hide ((hb3.block N (blk_lt (unhide HX2))).trans (unhide HX2))
    clear hmi hmi' hb3 HX2 HPS HIN HOK
    obtain ⟨a1', c1', a2', c2', a3', c3', a4', c4', rfl, _⟩ := id hma
    obtain ⟨O, hO⟩ : ∃ O, O = Obj.cells #[.int .i64 m.id, .int .i64 m.flags, .slice a1' m.q.length c1', .slice a2' m.a.length c2', .slice a3' m.u.length c3', .slice a4' m.x.length c4'] 25 := ⟨_, rfl⟩
    have hal := (Below.refl w3.heap.size w3).alloc (Nat.le_refl _) O
    have hma4 := hma.below hal
    have hY := heap_alloc_new w3 O
    have hX4 := (hal.block N (blk_lt (unhide HX3))).trans (unhide HX3)
    have hB4 := hB3.trans (hal.mono (by have := hB3.size; omega))
    have hs4 := hal.size
    rw [hO] at hY hX4 hB4 hma4 hs4
    have HM4 := hide hma4
    obtain ⟨⟨b0, b1, b2, b3, b4, b5⟩, _⟩ := cells6 hX4
    clear hX4 hY hma4 hma hal hO O
    go_wp2_with fail
    refine (unhide K3 _ hB4 _ _ (unhide HM4) hs4).mono ?_
    rintro e w5 ⟨rfl, hb5⟩
    have hB5 := hB4.trans (hb5.mono (by have := hB4.size; omega))
    clear b0 b1 b2 b3 b4 b5 HX3 HM4 K1 K2 K3
    have hd2 : decide ((B.size : Int) ≤ 65535) = true := by simp; omega
    go_wp2_with fail
    go_ret
    exact ⟨rfl, hB5⟩

end Go.Proofs.Ytdhobdmhnocbgaa

namespace Go.Proofs.Ytdhobdmhnocbgaa
open Go.RowKit Zr

theorem nm_err (b : ByteArray) : ∀ (f k run front : Nat) (e : Int), nm b f k run front = .error e → e ≠ 0 := by
  intro f
  induction f with
  | zero => intro k run front e h; simp only [nm, Except.error.injEq] at h; omega
  | succ f ih =>
    intro k run front e h
    rw [nm] at h
    split at h
    · simp only [Except.error.injEq] at h; omega
    · split at h
      · simp at h
      · split at h
        · split at h
          · simp only [Except.error.injEq] at h; omega
          · split at h
            · simp only [Except.error.injEq] at h; omega
            · split at h
              · simp only [Except.error.injEq] at h; omega
              · split at h
                · simp at h
                · next e' he => simp only [Except.error.injEq] at h; subst h; exact ih _ _ _ _ he
        · split at h
          · simp only [Except.error.injEq] at h; omega
          · split at h
            · simp only [Except.error.injEq] at h; omega
            · split at h
              · simp at h
              · next e' he => simp only [Except.error.injEq] at h; subst h; exact ih _ _ _ _ he

theorem que_err (b : ByteArray) (p : Nat) (e : Int) (h : questionAt b p = .error e) : e ≠ 0 := by
  unfold questionAt at h
  cases h1 : nameAt b p with
  | error x => rw [h1] at h; simp only [Except.error.injEq] at h; subst h; exact nm_err b _ _ _ _ _ h1
  | ok q =>
    rw [h1] at h
    simp only at h
    split at h
    · simp only [Except.error.injEq] at h; omega
    · simp at h

theorem rec_err (b : ByteArray) (p : Nat) (e : Int) (h : recordAt b p = .error e) : e ≠ 0 := by
  unfold recordAt at h
  cases h1 : nameAt b p with
  | error x => rw [h1] at h; simp only [Except.error.injEq] at h; subst h; exact nm_err b _ _ _ _ _ h1
  | ok q =>
    rw [h1] at h
    simp only at h
    split at h
    · simp only [Except.error.injEq] at h; omega
    · split at h
      · simp only [Except.error.injEq] at h; omega
      · split at h
        · simp only [Except.error.injEq] at h; omega
        · simp at h

theorem qs_err (b : ByteArray) (k : Nat) : ∀ m e, qsTo b k m = .error e → e ≠ 0 := by
  intro m
  induction m with
  | zero => intro e h; simp [qsTo] at h
  | succ m ih =>
    intro e h
    rw [qsTo] at h
    cases h1 : qsTo b k m with
    | error x => rw [h1] at h; simp only [Except.error.injEq] at h; subst h; exact ih _ h1
    | ok q =>
      rw [h1] at h
      simp only at h
      cases h2 : questionAt b q.2 with
      | error x => rw [h2] at h; simp only [Except.error.injEq] at h; subst h; exact que_err b _ _ h2
      | ok q2 => rw [h2] at h; simp at h

theorem rc_err (b : ByteArray) (part k : Nat) : ∀ m e, rcTo b part k m = .error e → e ≠ 0 := by
  intro m
  induction m with
  | zero => intro e h; simp [rcTo] at h
  | succ m ih =>
    intro e h
    rw [rcTo] at h
    cases h1 : rcTo b part k m with
    | error x => rw [h1] at h; simp only [Except.error.injEq] at h; subst h; exact ih _ h1
    | ok q =>
      rw [h1] at h
      simp only at h
      cases h2 : recordAt b q.2 with
      | error x => rw [h2] at h; simp only [Except.error.injEq] at h; subst h; exact rec_err b _ _ h2
      | ok q2 =>
        rw [h2] at h
        simp only at h
        split at h
        · simp only [Except.error.injEq] at h; omega
        · simp at h

theorem parse_err (b : ByteArray) (e : Int) (h : parseP b = .error e) : e ≠ 0 := by
  unfold parseP at h
  split at h
  · simp only [Except.error.injEq] at h; omega
  · split at h
    · simp only [Except.error.injEq] at h; omega
    · split at h
      · next x h1 => simp only [Except.error.injEq] at h; subst h; exact qs_err b _ _ _ h1
      · split at h
        · next x h1 => simp only [Except.error.injEq] at h; subst h; exact rc_err b _ _ _ _ h1
        · split at h
          · next x h1 => simp only [Except.error.injEq] at h; subst h; exact rc_err b _ _ _ _ h1
          · split at h
            · next x h1 => simp only [Except.error.injEq] at h; subst h; exact rc_err b _ _ _ _ h1
            · split at h
              · simp only [Except.error.injEq] at h; omega
              · simp at h

theorem append_nothing (s t : ByteArray) (h : t.size = 0) : s ++ t = s := by
  apply bt_ext
  · rw [ByteArray.size_append]; omega
  · intro i hi
    rw [ByteArray.size_append] at hi
    rw [bt_append, if_pos (by omega)]

/-- Data that are read are well made. -/
theorem data_well (b : ByteArray) (k n t : Nat) (d : ByteArray) (hb : b.size ≤ 65535) (hk : k + n ≤ b.size) (h : dataP b k n t = some d) : wellD t d := by
  unfold dataP at h
  by_cases c1 : t = 2 ∨ t = 5 ∨ t = 12
  · rw [if_pos c1] at h
    obtain ⟨S, P, h1, h2, h3⟩ := wn_shape b k n 1 0 d h
    obtain ⟨x, u, q1, q2, _⟩ := names_next b k 1 0 (by omega) S P h1 ⟨#[]⟩ k rfl
    rw [h1] at q2
    simp only [Except.ok.injEq, Prod.mk.injEq] at q2
    obtain ⟨rfl, rfl⟩ := q2
    rw [empty_append, append_nothing x _ (by rw [ByteArray.size_extract]; omega)] at h3
    subst h3
    exact (wellD_one d t c1).2 (name_whole b k d u q1)
  · rw [if_neg c1] at h
    by_cases c2 : t = 6
    · rw [if_pos c2] at h
      obtain ⟨S, P, h1, h2, h3⟩ := wn_shape b k n 2 20 d h
      obtain ⟨x, u, q1, q2, _⟩ := names_next b k 2 0 (by omega) S P h1 ⟨#[]⟩ k rfl
      obtain ⟨y, u', q3, q4, _⟩ := names_next b k 2 1 (by omega) S P h1 _ _ q2
      rw [h1] at q4
      simp only [Except.ok.injEq, Prod.mk.injEq] at q4
      obtain ⟨rfl, rfl⟩ := q4
      rw [empty_append] at h3
      subst c2
      exact (wellD_two d).2 ⟨x, y, _, h3, name_whole b k x u q1, name_whole b _ y u' q3, by rw [ByteArray.size_extract]; omega⟩
    · rw [if_neg c2] at h
      by_cases c3 : flatB t (b.extract k (k + n)) = true
      · rw [if_pos c3] at h
        simp only [Option.some.injEq] at h
        subst h
        exact (wellD_flat _ t c1 c2).2 ⟨by rw [ByteArray.size_extract]; omega, c3⟩
      · rw [if_neg c3] at h; simp at h

theorem part_well (b : ByteArray) (part k P : Nat) (L : List Rc) (hb : b.size ≤ 65535) (hl : L.length ≤ 65535) (h : rcTo b part k L.length = .ok (L, P)) : partOk (L.map Rc.int) part := by
  refine ⟨by simpa using hl, fun i hi => ?_⟩
  have hi' : i < L.length := by simpa using hi
  obtain ⟨p, p', _, h2, _, h4⟩ := rc_next b part k L.length L P h i hi'
  obtain ⟨u, q1, q2, q3, q4, q5, q6, q7⟩ := rec_open b p L[i] p' h2
  have e : (L.map Rc.int)[i] = L[i].int := by simp
  rw [e]
  have t1 : L[i].ty < 65536 := by rw [q4]; exact num_lt2 _ _
  have t2 : L[i].cl < 65536 := by rw [q5]; exact num_lt2 _ _
  have t3 : L[i].ttl < 4294967296 := by rw [q6]; exact num_lt4 _ _ _ (by omega)
  refine ⟨⟨name_whole b p _ u q1, ⟨?_, ?_⟩, ⟨?_, ?_⟩, ⟨?_, ?_⟩, ?_⟩, ?_⟩
  · show (0 : Int) ≤ (L[i].ty : Int); omega
  · show (L[i].ty : Int) ≤ 65535; omega
  · show (0 : Int) ≤ (L[i].cl : Int); omega
  · show (L[i].cl : Int) ≤ 65535; omega
  · show (0 : Int) ≤ (L[i].ttl : Int); omega
  · show (L[i].ttl : Int) ≤ 4294967295; omega
  · show wellD L[i].ty L[i].data
    rw [q4]
    exact data_well b _ _ _ _ hb q2 q7
  · rintro ⟨m1, m2⟩
    have m1' : ((L[i].ty : Nat) : Int) = 41 := m1
    have hf : misB (L.take i) L[i] part = true := by
      simp only [misB, Bool.and_eq_true, beq_iff_eq, Bool.or_eq_true, List.any_eq_true, bne_iff_ne, ne_eq, decide_eq_true_eq]
      refine ⟨by omega, ?_⟩
      rcases m2 with ⟨y, hy, hy2⟩ | m2 | m2
      · rw [← List.map_take, List.mem_map] at hy
        obtain ⟨z, hz, rfl⟩ := hy
        have hy2' : ((z.ty : Nat) : Int) = 41 := hy2
        exact .inl (.inl ⟨z, hz, by omega⟩)
      · exact .inl (.inr m2)
      · exact .inr m2
    rw [h4] at hf
    exact absurd hf (by decide)

/-- What is read is well made. -/
theorem parse_well (b : ByteArray) (m : Msg) (h : parseP b = .ok m) : msgOk m.int := by
  obtain ⟨hb, h12, i1, i2, l1, l2, l3, l4, p1, p2, p3, r1, r2, r3, r4⟩ := parse_open b m h
  have z1 := num_lt2 b 4
  have z2 := num_lt2 b 6
  have z3 := num_lt2 b 8
  have z4 := num_lt2 b 10
  have z5 := num_lt2 b 0
  have z6 := num_lt2 b 2
  refine ⟨⟨?_, ?_⟩, ⟨?_, ?_⟩, ⟨?_, fun i hi => ?_⟩, part_well b 0 p1 p2 m.a hb (by omega) r2, part_well b 1 p2 p3 m.u hb (by omega) r3, part_well b 2 p3 b.size m.x hb (by omega) r4⟩
  · show (0 : Int) ≤ (m.id : Int); omega
  · show (m.id : Int) ≤ 65535; omega
  · show (0 : Int) ≤ (m.flags : Int); omega
  · show (m.flags : Int) ≤ 65535; omega
  · show (m.q.map Qs.int).length ≤ 65535; rw [List.length_map]; omega
  · have hi' : i < m.q.length := by simpa [Msg.int] using hi
    obtain ⟨p, p', _, h2, _⟩ := qs_next b 12 m.q.length m.q p1 r1 i hi'
    obtain ⟨u, q1, q2, q3, q4, q5⟩ := que_open b p _ p' h2
    have e : m.int.q[i] = m.q[i].int := by simp [Msg.int]
    rw [e]
    have t1 : m.q[i].ty < 65536 := by rw [q4]; exact num_lt2 _ _
    have t2 : m.q[i].cl < 65536 := by rw [q5]; exact num_lt2 _ _
    refine ⟨name_whole b p _ u q1, ⟨?_, ?_⟩, ⟨?_, ?_⟩⟩
    · show (0 : Int) ≤ (m.q[i].ty : Int); omega
    · show (m.q[i].ty : Int) ≤ 65535; omega
    · show (0 : Int) ≤ (m.q[i].cl : Int); omega
    · show (m.q[i].cl : Int) ≤ 65535; omega

theorem parse_one : parseP ⟨#[0, 1, 0, 0, 0, 1, 0, 0, 0, 0, 0, 0, 1, 97, 0, 0, 1, 0, 1]⟩ = .ok ⟨1, 0, [⟨⟨#[1, 97, 0]⟩, 1, 1⟩], [], [], []⟩ := by kernel_rfl

end Go.Proofs.Ytdhobdmhnocbgaa
