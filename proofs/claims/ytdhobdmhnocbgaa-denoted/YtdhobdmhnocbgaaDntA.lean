/-
  Walks over zonekeep: two bytes, the name at the front of data, the bytes that spell a name.
-/
import Derived.Test.YtdhobdmhnocbgaaKeepA
namespace Go.Proofs.Ytdhobdmhnocbgaa
open Go.RowKit Zr

/-- How a name that is read goes on. -/
theorem nm_cases (b s : ByteArray) (i r k t : Nat) (h : nmAt b i r k = .ok (s.extract k s.size, t)) (hk : k < s.size) :
    i < b.size ∧ ((bt b i = 0 ∧ k + 1 = s.size ∧ bt s k = 0 ∧ t = 1) ∨
      (192 ≤ bt b i ∧ i + 1 < b.size ∧ 256 * (bt b i - 192) + bt b (i + 1) < r ∧ t = 2 ∧ ∃ u, nmAt b (256 * (bt b i - 192) + bt b (i + 1)) (256 * (bt b i - 192) + bt b (i + 1)) k = .ok (s.extract k s.size, u)) ∨
      (1 ≤ bt b i ∧ bt b i ≤ 63 ∧ i + 1 + bt b i ≤ b.size ∧ k + 1 + bt b i < s.size ∧ b.extract i (i + 1 + bt b i) = s.extract k (k + 1 + bt b i) ∧
        ∃ u, t = 1 + bt b i + u ∧ nmAt b (i + 1 + bt b i) r (k + 1 + bt b i) = .ok (s.extract (k + 1 + bt b i) s.size, u))) := by
  have hse : (s.extract k s.size).size = s.size - k := by rw [ByteArray.size_extract]; omega
  rw [nmAt_eq] at h
  by_cases c0 : b.size ≤ i
  · rw [if_pos c0] at h; simp at h
  · rw [if_neg c0] at h
    refine ⟨by omega, ?_⟩
    by_cases c1 : bt b i = 0
    · rw [if_pos c1] at h
      simp only [Except.ok.injEq, Prod.mk.injEq] at h
      obtain ⟨h1, h2⟩ := h
      have e1 : s.size - k = 1 := by rw [← hse, ← h1]; rfl
      refine .inl ⟨c1, by omega, ?_, h2.symm⟩
      have := bt_ex s k s.size 0 (by omega) (Nat.le_refl _)
      rw [← h1, Nat.add_zero] at this
      rw [← this]; rfl
    · rw [if_neg c1] at h
      by_cases c2 : 63 < bt b i
      · rw [if_pos c2] at h
        by_cases c3 : bt b i < 192
        · rw [if_pos c3] at h; simp at h
        · rw [if_neg c3] at h
          by_cases c4 : b.size ≤ i + 1
          · rw [if_pos c4] at h; simp at h
          · rw [if_neg c4] at h
            by_cases c5 : r ≤ 256 * (bt b i - 192) + bt b (i + 1)
            · rw [if_pos c5] at h; simp at h
            · rw [if_neg c5] at h
              refine .inr (.inl ⟨by omega, by omega, by omega, ?_⟩)
              generalize nmAt b (256 * (bt b i - 192) + bt b (i + 1)) (256 * (bt b i - 192) + bt b (i + 1)) k = x at h
              cases x with
              | error e => simp at h
              | ok p =>
                obtain ⟨s', u⟩ := p
                simp only [Except.ok.injEq, Prod.mk.injEq] at h
                obtain ⟨rfl, rfl⟩ := h
                exact ⟨rfl, u, rfl⟩
      · rw [if_neg c2] at h
        by_cases c3 : b.size < i + 1 + bt b i
        · rw [if_pos c3] at h; simp at h
        · rw [if_neg c3] at h
          by_cases c4 : 255 < k + 1 + bt b i + 1
          · rw [if_pos c4] at h; simp at h
          · rw [if_neg c4] at h
            refine .inr (.inr ⟨by omega, by omega, by omega, ?_⟩)
            have hp := nm_tl b (enough b (i + 1 + bt b i) r + 1) (i + 1 + bt b i) r (k + 1 + bt b i)
            have hp' : ∀ x u, nmAt b (i + 1 + bt b i) r (k + 1 + bt b i) = .ok (x, u) → 0 < x.size := fun x u hx => (hp x u hx).1.lt
            generalize nmAt b (i + 1 + bt b i) r (k + 1 + bt b i) = x at h hp'
            cases x with
            | error e => simp at h
            | ok p =>
              obtain ⟨s', u⟩ := p
              simp only [Except.ok.injEq, Prod.mk.injEq] at h
              obtain ⟨h1, h2⟩ := h
              have h3 := hp' s' u rfl
              have hs1 : (b.extract i (i + 1 + bt b i)).size = 1 + bt b i := by rw [ByteArray.size_extract]; omega
              have hsz : s.size - k = 1 + bt b i + s'.size := by rw [← hse, ← h1, ByteArray.size_append, hs1]
              have hA : b.extract i (i + 1 + bt b i) = s.extract k (k + 1 + bt b i) := by
                apply bt_ext
                · rw [hs1, ByteArray.size_extract]; omega
                · intro j hj
                  rw [hs1] at hj
                  have e1 := bt_append (b.extract i (i + 1 + bt b i)) s' j
                  rw [if_pos (by omega), h1, bt_ex s k s.size j (by omega) (Nat.le_refl _)] at e1
                  rw [← e1, bt_ex s k _ j (by omega) (by omega)]
              have hB : s' = s.extract (k + 1 + bt b i) s.size := by
                apply bt_ext
                · rw [ByteArray.size_extract]; omega
                · intro j hj
                  have e1 := bt_append (b.extract i (i + 1 + bt b i)) s' (1 + bt b i + j)
                  rw [if_neg (by omega), hs1, h1, bt_ex s k s.size _ (by omega) (Nat.le_refl _), show 1 + bt b i + j - (1 + bt b i) = j by omega] at e1
                  rw [← e1, bt_ex s _ _ j (by omega) (Nat.le_refl _)]
                  congr 1; omega
              exact ⟨by omega, hA, u, h2.symm, by rw [hB]⟩

set_option maxHeartbeats 1000000 in
theorem two_any (b : ByteArray) (k : Nat) (v : Int) (w : World) (hb : b.size ≤ 65535) (hv : v = k) (hk : k + 2 ≤ b.size) :
    Calls Try.prog 56 #[.string b, .int .i64 v] w fun e w' => e = .returned (.int .i64 (num b k 2 : Nat)) ∧ ∃ n, w' = w.drewN n := by
  subst hv
  have hg0 := bt_get b k (by omega)
  have hg1 := bt_get b (k + 1) (by omega)
  have hl0 := bt_lt b k
  have hl1 := bt_lt b (k + 1)
  have hn : (num b k 2 : Nat) = 256 * bt b k + bt b (k + 1) := by simp only [num]; rw [Nat.add_zero]; omega
  rw [hn]
  clear hn
  generalize bt b k = x0 at *
  generalize bt b (k + 1) = x1 at *
  go_enter Try.func56, Try.ntmps56
  go_wp2_with fail
  go_quiet (fail)
  go_wp2_with fail
  go_ret
  exact ⟨by go_num, _, rfl⟩

set_option maxHeartbeats 1000000 in
theorem first_any (s x : ByteArray) (w : World) (hs : s.size ≤ 281474976710656) (hx : wholeB x = true) (hp : Pre x s) :
    Calls Try.prog 131 #[.string s] w fun e w' => e = .returned (.int .i64 (x.size : Nat)) ∧ ∃ n, w' = w.drewN n := by
  obtain ⟨ht, h255⟩ := tl_ok hx
  have hp1 := hp.1
  have HP := hide hp.2
  have HT := hide ht
  clear hp ht hx
  go_enter Try.func131, Try.ntmps131
  go_wp2_with fail
  go_loopw [3] (fun i w' => ∃ j m : Nat, j < x.size ∧ i = .int .i64 j ∧ Hid (Tl x j) ∧ w' = w.drewN m) (fun i _ => x.size - (intOf i).toNat)
  case atStart => exact ⟨0, 0, (unhide HT).lt, rfl, HT, rfl⟩
  case round =>
    obtain ⟨j, m, hj, rfl, HJ, rfl⟩ := hrel
    have hg0 := bt_get s j (by omega)
    have hbj := unhide HP j hj
    rw [hbj] at hg0
    clear hbj
    cases unhide HJ with
    | root _ h1 h2 =>
      rw [h2] at hg0
      go_wp2_with fail
      go_ret
      exact ⟨ret_int (by omega), m, rfl⟩
    | lab _ h1 h2 h3 =>
      have hlt := h3.lt
      have H3 := hide h3
      clear h3
      generalize bt x j = n at *
      go_wp2_with fail
      exact ⟨⟨j + 1 + n, m, hlt, by go_num, H3, rfl⟩, by simp [intOf]; omega⟩

set_option maxRecDepth 100000 in
set_option maxHeartbeats 4000000 in
theorem spelled_any (b s : ByteArray) (k t : Nat) (v : Int) (w : World) (hb : b.size ≤ 65535) (hv : v = k) (h : nameAt b k = .ok (s, t)) :
    Calls Try.prog 57 #[.string b, .int .i64 v, .string s] w fun e w' => e = .returned (.int .i64 (t : Nat)) ∧ ∃ n, w' = w.drewN n := by
  subst hv
  obtain ⟨t1, t2, t3⟩ := nameAt_bounds b k s t h
  have hw := whole_pos (name_whole b k s t h)
  have h0 : nmAt b k k 0 = .ok (s.extract 0 s.size, t) := by rw [extract_all]; exact h
  have H0 := hide h0
  clear h h0
  go_enter Try.func57, Try.ntmps57
  go_wp2_with fail
  go_loopw [7, 8, 9, 10, 11] (fun vr vi vk vt vs w' => ∃ (r i q st u m : Nat) (tk : Int), vr = .int .i64 r ∧ vi = .int .i64 i ∧ vk = .int .i64 q ∧ vt = .int .i64 tk ∧ vs = .int .i64 st ∧ Hid (nmAt b i r q = .ok (s.extract q s.size, u)) ∧ q < s.size ∧ r ≤ k ∧ st + r ≤ q + k ∧ Hid ((tk = -1 ∧ i + u = k + t ∧ k ≤ i) ∨ tk = t) ∧ w' = w.drewN m) (fun _ _ _ _ vs _ => b.size + 300 - (intOf vs).toNat)
  case atStart => exact ⟨k, k, 0, 0, t, 0, -1, rfl, rfl, rfl, rfl, rfl, H0, by omega, by omega, by omega, hide (.inl ⟨rfl, rfl, by omega⟩), rfl⟩
  case round =>
    obtain ⟨r, i, q, st, u, m, tk, rfl, rfl, rfl, rfl, rfl, HU, hq, hr, hst, HT, rfl⟩ := hrel
    obtain ⟨hi, hc⟩ := nm_cases b s i r q u (unhide HU) hq
    have hg0 := bt_get b i hi
    have hl0 := bt_lt b i
    clear HU
    rcases hc with ⟨c1, c2, c3, rfl⟩ | ⟨c1, c2, c3, rfl, u', c4⟩ | ⟨c1, c2, c3, c4, c5, u', rfl, c6⟩
    · rw [c1] at hg0
      have hg1 := bt_get s q hq
      rw [c3] at hg1
      rcases unhide HT with ⟨rfl, e1, e2⟩ | rfl
      · go_wp2_with fail
        go_ret
        exact ⟨ret_int (by omega), m, rfl⟩
      · go_wp2_with fail
        go_ret
        exact ⟨rfl, m, rfl⟩
    · have hg1 := bt_get b (i + 1) c2
      have hl1 := bt_lt b (i + 1)
      have C4 := hide c4
      clear c4
      generalize bt b i = x0 at *
      generalize bt b (i + 1) = x1 at *
      rcases unhide HT with ⟨rfl, e1, e2⟩ | rfl
      · go_wp2_with fail
        exact ⟨⟨256 * (x0 - 192) + x1, 256 * (x0 - 192) + x1, q, st + 1, u', m, t, by go_num, by go_num, rfl, by go_num, by go_num, C4, hq, by omega, by omega, hide (.inr rfl), rfl⟩, by simp [intOf]; omega⟩
      · go_wp2_with fail
        exact ⟨⟨256 * (x0 - 192) + x1, 256 * (x0 - 192) + x1, q, st + 1, u', m, t, by go_num, by go_num, rfl, rfl, by go_num, C4, hq, by omega, by omega, hide (.inr rfl), rfl⟩, by simp [intOf]; omega⟩
    · have C6 := hide c6
      clear c6
      generalize bt b i = x0 at *
      have d1 : decide ((b.size : Int) < (i : Int) + 1 + (x0 : Int)) = false := by simp; omega
      have d2 : decide ((s.size : Int) < (q : Int) + 1 + (x0 : Int)) = false := by simp; omega
      have n1 : ((i : Int) + 1 + (x0 : Int)).toNat = i + 1 + x0 := by omega
      have n2 : ((q : Int) + 1 + (x0 : Int)).toNat = q + 1 + x0 := by omega
      have hne : ((s.extract q (q + 1 + x0)).toList != (s.extract q (q + 1 + x0)).toList) = false := by simp
      go_wp2_with fail
      go_quiet (fail)
      go_wp2_with fail
      refine ⟨⟨r, i + 1 + x0, q + 1 + x0, st + 1, u', m + nq, tk, rfl, by go_num, by go_num, rfl, by go_num, C6, by omega, hr, by omega, hide ?_, rfl⟩, by simp [intOf]; omega⟩
      rcases unhide HT with ⟨e0, e1, e2⟩ | e0
      · exact .inl ⟨e0, by omega, by omega⟩
      · exact .inr e0

end Go.Proofs.Ytdhobdmhnocbgaa
