/-
  The plain side of writing: which data are well made; how long a name is with which bytes begin.
-/
import Derived.Test.YtdhobdmhnocbgaaQWrit
import Derived.Test.YtdhobdmhnocbgaaQRecs
namespace Go.Proofs.Ytdhobdmhnocbgaa.Zr

theorem Tl.shift (a : ByteArray) {s : ByteArray} {k : Nat} (h : Tl s k) : Tl (a ++ s) (a.size + k) := by
  induction h with
  | root k h1 h2 =>
    refine .root _ (by rw [ByteArray.size_append]; omega) ?_
    rw [bt_append, if_neg (by omega), show a.size + k - a.size = k by omega, h2]
  | lab k h1 h2 h3 ih =>
    have e : bt (a ++ s) (a.size + k) = bt s k := by rw [bt_append, if_neg (by omega), show a.size + k - a.size = k by omega]
    refine .lab _ (by omega) (by omega) ?_
    rw [e, show a.size + k + 1 + bt s k = a.size + (k + 1 + bt s k) by omega]
    exact ih

/-- A name that is read is whole; and it has one byte, or three and more. -/
theorem nm_tl (b : ByteArray) : ∀ (f k run front : Nat) (x : ByteArray) (t : Nat), nm b f k run front = .ok (x, t) → Tl x 0 ∧ (x.size = 1 ∨ 3 ≤ x.size) := by
  intro f
  induction f with
  | zero => intro k run front x t h; simp [nm] at h
  | succ f ih =>
    intro k run front x t h
    rw [nm] at h
    by_cases c0 : b.size ≤ k
    · rw [if_pos c0] at h; simp at h
    rw [if_neg c0] at h
    by_cases c1 : bt b k = 0
    · rw [if_pos c1] at h
      simp only [Except.ok.injEq, Prod.mk.injEq] at h
      obtain ⟨rfl, _⟩ := h
      exact ⟨.root 0 rfl rfl, .inl rfl⟩
    rw [if_neg c1] at h
    by_cases c2 : 63 < bt b k
    · rw [if_pos c2] at h
      by_cases c3 : bt b k < 192
      · rw [if_pos c3] at h; simp at h
      rw [if_neg c3] at h
      by_cases c4 : b.size ≤ k + 1
      · rw [if_pos c4] at h; simp at h
      rw [if_neg c4] at h
      by_cases c5 : run ≤ 256 * (bt b k - 192) + bt b (k + 1)
      · rw [if_pos c5] at h; simp at h
      rw [if_neg c5] at h
      have hi := ih (256 * (bt b k - 192) + bt b (k + 1)) (256 * (bt b k - 192) + bt b (k + 1)) front
      generalize nm b f (256 * (bt b k - 192) + bt b (k + 1)) (256 * (bt b k - 192) + bt b (k + 1)) front = y at h hi
      cases y with
      | error e => simp at h
      | ok z =>
        obtain ⟨x', t'⟩ := z
        simp only [Except.ok.injEq, Prod.mk.injEq] at h
        obtain ⟨rfl, _⟩ := h
        exact hi x' t' rfl
    rw [if_neg c2] at h
    by_cases c3 : b.size < k + 1 + bt b k
    · rw [if_pos c3] at h; simp at h
    rw [if_neg c3] at h
    by_cases c4 : 255 < front + 1 + bt b k + 1
    · rw [if_pos c4] at h; simp at h
    rw [if_neg c4] at h
    have hi := ih (k + 1 + bt b k) run (front + 1 + bt b k)
    generalize nm b f (k + 1 + bt b k) run (front + 1 + bt b k) = y at h hi
    cases y with
    | error e => simp at h
    | ok z =>
      obtain ⟨x', t'⟩ := z
      simp only [Except.ok.injEq, Prod.mk.injEq] at h
      obtain ⟨rfl, _⟩ := h
      have hse : (b.extract k (k + 1 + bt b k)).size = 1 + bt b k := by rw [ByteArray.size_extract]; omega
      obtain ⟨h1, h2⟩ := hi x' t' rfl
      refine ⟨?_, .inr (by rw [ByteArray.size_append]; omega)⟩
      have e0 : bt (b.extract k (k + 1 + bt b k) ++ x') 0 = bt b k := by rw [bt_append, if_pos (by omega), bt_ex b k _ 0 (by omega) (by omega)]; rfl
      refine .lab 0 (by omega) (by omega) ?_
      have h3 := h1.shift (b.extract k (k + 1 + bt b k))
      rw [hse] at h3
      rw [e0, show 0 + 1 + bt b k = 1 + bt b k + 0 by omega]
      exact h3

theorem name_whole (b : ByteArray) (k : Nat) (x : ByteArray) (t : Nat) (h : nameAt b k = .ok (x, t)) : wholeB x = true :=
  (whole_iff x).2 ⟨(nm_tl b _ k k 0 x t h).1, (nameAt_bounds b k x t h).2.2⟩

/-- A name that takes as many bytes as it has, has no pointer. -/
theorem nm_noptr (b : ByteArray) : ∀ (f k run front : Nat) (x : ByteArray) (t : Nat), nm b f k run front = .ok (x, t) → x.size = t → nm b f k 0 front = .ok (x, t) := by
  intro f
  induction f with
  | zero => intro k run front x t h; simp [nm] at h
  | succ f ih =>
    intro k run front x t h hs
    have htl := nm_tl b (f + 1) k run front x t h
    rw [nm] at h ⊢
    by_cases c0 : b.size ≤ k
    · rw [if_pos c0] at h; simp at h
    rw [if_neg c0] at h ⊢
    by_cases c1 : bt b k = 0
    · rw [if_pos c1] at h ⊢; exact h
    rw [if_neg c1] at h ⊢
    by_cases c2 : 63 < bt b k
    · rw [if_pos c2] at h
      by_cases c3 : bt b k < 192
      · rw [if_pos c3] at h; simp at h
      rw [if_neg c3] at h
      by_cases c4 : b.size ≤ k + 1
      · rw [if_pos c4] at h; simp at h
      rw [if_neg c4] at h
      by_cases c5 : run ≤ 256 * (bt b k - 192) + bt b (k + 1)
      · rw [if_pos c5] at h; simp at h
      rw [if_neg c5] at h
      generalize nm b f (256 * (bt b k - 192) + bt b (k + 1)) (256 * (bt b k - 192) + bt b (k + 1)) front = y at h
      cases y with
      | error e => simp at h
      | ok z =>
        obtain ⟨x', t'⟩ := z
        simp only [Except.ok.injEq, Prod.mk.injEq] at h
        omega
    rw [if_neg c2] at h ⊢
    by_cases c3 : b.size < k + 1 + bt b k
    · rw [if_pos c3] at h; simp at h
    rw [if_neg c3] at h ⊢
    by_cases c4 : 255 < front + 1 + bt b k + 1
    · rw [if_pos c4] at h; simp at h
    rw [if_neg c4] at h ⊢
    have hi := ih (k + 1 + bt b k) run (front + 1 + bt b k)
    generalize nm b f (k + 1 + bt b k) run (front + 1 + bt b k) = y at h hi
    cases y with
    | error e => simp at h
    | ok z =>
      obtain ⟨x', t'⟩ := z
      simp only [Except.ok.injEq, Prod.mk.injEq] at h
      obtain ⟨rfl, rfl⟩ := h
      have hse : (b.extract k (k + 1 + bt b k)).size = 1 + bt b k := by rw [ByteArray.size_extract]; omega
      rw [ByteArray.size_append, hse] at hs
      rw [hi x' t' rfl (by omega)]

/-- Without a pointer, a name is the bytes that it takes. -/
theorem nm_bytes (b : ByteArray) : ∀ (f k front : Nat) (x : ByteArray) (t : Nat), nm b f k 0 front = .ok (x, t) → x = b.extract k (k + t) ∧ k + t ≤ b.size := by
  intro f
  induction f with
  | zero => intro k front x t h; simp [nm] at h
  | succ f ih =>
    intro k front x t h
    rw [nm] at h
    by_cases c0 : b.size ≤ k
    · rw [if_pos c0] at h; simp at h
    rw [if_neg c0] at h
    by_cases c1 : bt b k = 0
    · rw [if_pos c1] at h
      simp only [Except.ok.injEq, Prod.mk.injEq] at h
      obtain ⟨rfl, rfl⟩ := h
      exact ⟨(single_of b k (by omega) c1).symm, by omega⟩
    rw [if_neg c1] at h
    by_cases c2 : 63 < bt b k
    · rw [if_pos c2] at h
      by_cases c3 : bt b k < 192
      · rw [if_pos c3] at h; simp at h
      rw [if_neg c3] at h
      by_cases c4 : b.size ≤ k + 1
      · rw [if_pos c4] at h; simp at h
      rw [if_neg c4, if_pos (Nat.zero_le _)] at h
      simp at h
    rw [if_neg c2] at h
    by_cases c3 : b.size < k + 1 + bt b k
    · rw [if_pos c3] at h; simp at h
    rw [if_neg c3] at h
    by_cases c4 : 255 < front + 1 + bt b k + 1
    · rw [if_pos c4] at h; simp at h
    rw [if_neg c4] at h
    have hi := ih (k + 1 + bt b k) (front + 1 + bt b k)
    generalize nm b f (k + 1 + bt b k) 0 (front + 1 + bt b k) = y at h hi
    cases y with
    | error e => simp at h
    | ok z =>
      obtain ⟨x', t'⟩ := z
      simp only [Except.ok.injEq, Prod.mk.injEq] at h
      obtain ⟨rfl, rfl⟩ := h
      obtain ⟨h1, h2⟩ := hi x' t' rfl
      refine ⟨?_, by omega⟩
      rw [h1, extract_join b k _ _ (by omega) (by omega) (by omega)]
      congr 1
      omega

/-- A whole name that stands somewhere is read there. -/
theorem name_in (a x c : ByteArray) (h : wholeB x = true) : nameAt (a ++ x ++ c) a.size = .ok (x, x.size) := by
  obtain ⟨h1, h2⟩ := (whole_iff x).1 h
  have h3 := tl_read x 0 h1 (a ++ x ++ c) a.size a.size 0 (by rw [ByteArray.size_append, ByteArray.size_append]; omega) (fun j _ hj => by
    rw [bt_append, if_pos (by rw [ByteArray.size_append]; omega), bt_append, if_neg (by omega)]
    congr 1; omega) (by omega)
  rw [extract_all] at h3
  exact h3

theorem name_head (x c : ByteArray) (h : wholeB x = true) : nameAt (x ++ c) 0 = .ok (x, x.size) := by
  have := name_in ⟨#[]⟩ x c h
  rw [empty_append] at this
  exact this

/-- At the front there is no pointer. -/
theorem name_front (s x : ByteArray) (t : Nat) (h : nameAt s 0 = .ok (x, t)) : x = s.extract 0 t ∧ t ≤ s.size ∧ x.size = t ∧ wholeB x = true ∧ 1 ≤ t ∧ t ≤ 255 := by
  have h1 := nm_bytes s _ 0 0 x t h
  have h2 := nameAt_bounds s 0 x t h
  have h3 : x.size = t := by rw [h1.1, ByteArray.size_extract]; omega
  refine ⟨by simpa using h1.1, by omega, h3, name_whole s 0 x t h, h2.1, by omega⟩

/-- How long the name is with which bytes begin; 0: there is none. -/
def lenN (s : ByteArray) : Nat := match nameAt s 0 with
  | .ok (_, t) => t
  | .error _ => 0

theorem split_eq (s : ByteArray) (n : Nat) (h : n ≤ s.size) : s = s.extract 0 n ++ s.extract n s.size := by
  rw [extract_join s 0 n s.size (Nat.zero_le _) h (Nat.le_refl _), extract_all]

/-- Such a length, told by the bytes alone. -/
theorem lenN_iff (s : ByteArray) (n : Nat) (hn : 1 ≤ n) (h : n ≤ s.size) : wholeB (s.extract 0 n) = true ↔ lenN s = n := by
  constructor
  · intro hw
    have h1 := name_head (s.extract 0 n) (s.extract n s.size) hw
    rw [← split_eq s n h] at h1
    unfold lenN
    rw [h1]
    show (s.extract 0 n).size = n
    rw [ByteArray.size_extract]; omega
  · intro hl
    unfold lenN at hl
    cases hx : nameAt s 0 with
    | error e => rw [hx] at hl; simp at hl; omega
    | ok z =>
      obtain ⟨x, t⟩ := z
      rw [hx] at hl
      simp only at hl
      subst hl
      obtain ⟨h1, h2, h3, h4, h5, h6⟩ := name_front s x t hx
      rw [← h1]; exact h4

theorem lenN_le (s : ByteArray) : lenN s ≤ s.size ∧ lenN s ≤ 255 := by
  unfold lenN
  cases hx : nameAt s 0 with
  | error e => exact ⟨Nat.zero_le _, Nat.zero_le _⟩
  | ok z =>
    obtain ⟨x, t⟩ := z
    obtain ⟨h1, h2, h3, h4, h5, h6⟩ := name_front s x t hx
    exact ⟨h2, h6⟩

/-- The last byte of a name, whole, is 0. -/
theorem tl_last {s : ByteArray} {k : Nat} (h : Tl s k) : bt s (s.size - 1) = 0 := by
  induction h with
  | root k h1 h2 => rw [show s.size - 1 = k by omega]; exact h2
  | lab k h1 h2 h3 ih => exact ih

theorem lenN_last (s : ByteArray) (h : 1 ≤ lenN s) : bt s (lenN s - 1) = 0 := by
  have h1 := lenN_le s
  have h2 := (lenN_iff s (lenN s) h h1.1).2 rfl
  have h3 := tl_last ((whole_iff _).1 h2).1
  have h4 : (s.extract 0 (lenN s)).size = lenN s := by rw [ByteArray.size_extract]; omega
  rw [h4, bt_ex s 0 _ _ (by omega) h1.1, Nat.zero_add] at h3
  exact h3

theorem lenN_head (x c : ByteArray) (h : wholeB x = true) : lenN (x ++ c) = x.size := by
  unfold lenN
  rw [name_head x c h]

theorem whole_pos {x : ByteArray} (h : wholeB x = true) : 1 ≤ x.size ∧ x.size ≤ 255 := by
  obtain ⟨h1, h2⟩ := (whole_iff x).1 h
  have := h1.lt
  exact ⟨by omega, h2⟩

/-- Data of a type, with the names whole. -/
def wellD (t : Nat) (d : ByteArray) : Prop := d.size ≤ 65535 ∧ dataP d 0 d.size t = some d

theorem append_left (a b c : ByteArray) (h : a ++ b = a ++ c) : b = c := by
  have hs : b.size = c.size := by
    have := congrArg ByteArray.size h
    rw [ByteArray.size_append, ByteArray.size_append] at this
    omega
  apply bt_ext hs
  intro i hi
  have := congrArg (fun x => bt x (a.size + i)) h
  simp only [bt_append] at this
  rw [if_neg (by omega), if_neg (by omega), show a.size + i - a.size = i by omega] at this
  exact this

theorem wn_one (d : ByteArray) : wn d 0 d.size 1 0 = some d ↔ wholeB d = true := by
  unfold wn
  simp only [namesTo]
  constructor
  · intro h
    cases hx : nameAt d 0 with
    | error e => rw [hx] at h; simp at h
    | ok z =>
      obtain ⟨x, t⟩ := z
      rw [hx] at h
      obtain ⟨h1, h2, h3, h4, h5, h6⟩ := name_front d x t hx
      simp only at h
      by_cases c : 0 + t + 0 = 0 + d.size
      · have e : d.extract 0 t = d := by rw [show t = d.size by omega, extract_all]
        rw [h1, e] at h4
        exact h4
      · rw [if_neg c] at h; simp at h
  · intro h
    have h1 := name_head d ⟨#[]⟩ h
    have e : d ++ (⟨#[]⟩ : ByteArray) = d := by apply ByteArray.ext; simp [ByteArray.data_append]
    rw [e] at h1
    rw [h1]
    simp only
    rw [if_pos (by omega), empty_append, Nat.zero_add, Nat.add_zero, extract_self, e]

theorem wn_two (d : ByteArray) : wn d 0 d.size 2 20 = some d ↔ ∃ x y r, d = x ++ y ++ r ∧ wholeB x = true ∧ wholeB y = true ∧ r.size = 20 := by
  unfold wn
  simp only [namesTo]
  constructor
  · intro h
    cases hx : nameAt d 0 with
    | error e => rw [hx] at h; simp at h
    | ok z =>
      obtain ⟨x, t⟩ := z
      rw [hx] at h
      obtain ⟨h1, h2, h3, h4, h5, h6⟩ := name_front d x t hx
      simp only [Nat.zero_add, empty_append] at h
      cases hy : nameAt d t with
      | error e => rw [hy] at h; simp at h
      | ok z =>
        obtain ⟨y, u⟩ := z
        rw [hy] at h
        simp only at h
        have hb := nameAt_bounds d t y u hy
        by_cases c : t + u + 20 = d.size
        · rw [if_pos c] at h
          simp only [Option.some.injEq] at h
          refine ⟨x, y, d.extract (t + u) (t + u + 20), h.symm, h4, name_whole d t y u hy, by rw [ByteArray.size_extract]; omega⟩
        · rw [if_neg c] at h; simp at h
  · intro ⟨x, y, r, hd, hx, hy, hr⟩
    have h1 := name_head x (y ++ r) hx
    rw [← append_assoc', ← hd] at h1
    have h2 := name_in x y r hy
    rw [← hd] at h2
    have hs : d.size = x.size + y.size + 20 := by rw [hd, ByteArray.size_append, ByteArray.size_append, hr]
    rw [h1]
    simp only [Nat.zero_add, empty_append]
    rw [h2]
    simp only
    rw [if_pos (by omega)]
    congr 1
    have e : d.extract (x.size + y.size) (x.size + y.size + 20) = r := by
      have h3 := split_eq d (x.size + y.size) (by omega)
      have h4 : d.extract 0 (x.size + y.size) = x ++ y := by
        apply bt_ext
        · rw [ByteArray.size_extract, ByteArray.size_append]; omega
        · intro i hi
          rw [ByteArray.size_extract] at hi
          rw [bt_ex d 0 _ i (by omega) (by omega), hd, bt_append, if_pos (by rw [ByteArray.size_append]; omega), Nat.zero_add]
      rw [h4] at h3
      have h5 : x ++ y ++ r = x ++ y ++ d.extract (x.size + y.size) d.size := hd ▸ h3
      have h6 := append_left _ _ _ h5
      rw [h6, hs]
    rw [e, hd]

theorem wellD_one (d : ByteArray) (t : Nat) (h : t = 2 ∨ t = 5 ∨ t = 12) : wellD t d ↔ wholeB d = true := by
  unfold wellD dataP
  rw [if_pos h, wn_one]
  constructor
  · exact fun h => h.2
  · intro h
    have := whole_pos h
    exact ⟨by omega, h⟩
theorem wellD_two (d : ByteArray) : wellD 6 d ↔ ∃ x y r, d = x ++ y ++ r ∧ wholeB x = true ∧ wholeB y = true ∧ r.size = 20 := by
  unfold wellD dataP
  rw [if_neg (by omega), if_pos rfl, wn_two]
  constructor
  · exact fun h => h.2
  · intro h
    refine ⟨?_, h⟩
    obtain ⟨x, y, r, hd, hx, hy, hr⟩ := h
    have h1 := whole_pos hx
    have h2 := whole_pos hy
    rw [hd, ByteArray.size_append, ByteArray.size_append, hr]
    omega
theorem wellD_flat (d : ByteArray) (t : Nat) (h : ¬ (t = 2 ∨ t = 5 ∨ t = 12)) (h6 : t ≠ 6) : wellD t d ↔ d.size ≤ 65535 ∧ flatB t d = true := by
  unfold wellD dataP
  rw [if_neg h, if_neg h6, Nat.zero_add, extract_all]
  by_cases c : flatB t d = true
  · rw [if_pos c]; simp [c]
  · rw [if_neg c]; simp [c]

/-- The document's way: lengths of names at the front. -/
theorem lenN_one (d : ByteArray) : wholeB d = true ↔ lenN d ≠ 0 ∧ d.size - lenN d = 0 := by
  have h1 := lenN_le d
  constructor
  · intro h
    have h2 := lenN_head d ⟨#[]⟩ h
    have e : d ++ (⟨#[]⟩ : ByteArray) = d := by apply ByteArray.ext; simp [ByteArray.data_append]
    rw [e] at h2
    have := whole_pos h
    omega
  · intro ⟨h2, h3⟩
    have h4 := (lenN_iff d (lenN d) (by omega) h1.1).2 rfl
    rw [show lenN d = d.size by omega, extract_all] at h4
    exact h4

theorem extract_back (x c : ByteArray) : (x ++ c).extract x.size (x ++ c).size = c := by
  apply bt_ext
  · rw [ByteArray.size_extract, ByteArray.size_append]; omega
  · intro i hi
    rw [ByteArray.size_extract, ByteArray.size_append] at hi
    rw [bt_ex _ _ _ i (by rw [ByteArray.size_append]; omega) (Nat.le_refl _), bt_append, if_neg (by omega)]
    congr 1; omega

theorem lenN_two (d : ByteArray) : (∃ x y r, d = x ++ y ++ r ∧ wholeB x = true ∧ wholeB y = true ∧ r.size = 20) ↔
    lenN d ≠ 0 ∧ lenN (d.extract (lenN d) d.size) ≠ 0 ∧ d.size - lenN d - lenN (d.extract (lenN d) d.size) = 20 := by
  have h1 := lenN_le d
  constructor
  · intro ⟨x, y, r, hd, hx, hy, hr⟩
    have h2 := lenN_head x (y ++ r) hx
    rw [← append_assoc', ← hd] at h2
    have h3 : d.extract x.size d.size = y ++ r := by rw [hd, append_assoc']; exact extract_back x (y ++ r)
    have h4 := lenN_head y r hy
    have h5 := whole_pos hx
    have h6 := whole_pos hy
    have hs : d.size = x.size + y.size + 20 := by rw [hd, ByteArray.size_append, ByteArray.size_append, hr]
    rw [h2, h3, h4]
    omega
  · intro ⟨h2, h3, h4⟩
    have h5 := (lenN_iff d (lenN d) (by omega) h1.1).2 rfl
    have h6 := lenN_le (d.extract (lenN d) d.size)
    have h7 := (lenN_iff _ (lenN (d.extract (lenN d) d.size)) (by omega) h6.1).2 rfl
    have h8 : (d.extract (lenN d) d.size).size = d.size - lenN d := by rw [ByteArray.size_extract]; omega
    refine ⟨_, _, (d.extract (lenN d) d.size).extract (lenN (d.extract (lenN d) d.size)) (d.extract (lenN d) d.size).size, ?_, h5, h7, by rw [ByteArray.size_extract]; omega⟩
    rw [append_assoc', ← split_eq _ _ h6.1, ← split_eq d _ h1.1]

/-- The same name, read alone or with pointers allowed. -/
theorem name_same (s t : ByteArray) (k : Nat) (h : nameAt s 0 = .ok (t, k)) : t = s ↔ wholeB s = true := by
  obtain ⟨h1, h2, h3, h4, h5, h6⟩ := name_front s t k h
  constructor
  · intro e; rw [e] at h4; exact h4
  · intro hw
    have h7 := name_head s ⟨#[]⟩ hw
    have e : s ++ (⟨#[]⟩ : ByteArray) = s := by apply ByteArray.ext; simp [ByteArray.data_append]
    rw [e, h] at h7
    simp only [Except.ok.injEq, Prod.mk.injEq] at h7
    exact h7.1

end Go.Proofs.Ytdhobdmhnocbgaa.Zr
