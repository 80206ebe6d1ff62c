/-
  The plain side of names: what one run says of the whole name.
-/
import Derived.Test.YtdhobdmhnocbgaaGreatSPure
namespace Go.Proofs.YtdhobdmhnocbgaaGreat.Zr

theorem extract_self (b : ByteArray) (i : Nat) : b.extract i i = ⟨#[]⟩ := by
  apply ByteArray.ext
  simp

theorem empty_append (s : ByteArray) : (⟨#[]⟩ : ByteArray) ++ s = s := by
  apply ByteArray.ext
  simp [ByteArray.data_append]

theorem append_assoc' (a b c : ByteArray) : a ++ b ++ c = a ++ (b ++ c) := by
  apply ByteArray.ext
  simp [ByteArray.data_append, Array.append_assoc]

theorem extract_join (b : ByteArray) (i j k : Nat) (h1 : i ≤ j) (h2 : j ≤ k) (h3 : k ≤ b.size) : b.extract i j ++ b.extract j k = b.extract i k := by
  apply ByteArray.ext
  have h3' : k ≤ b.data.size := h3
  simp only [ByteArray.data_append, ByteArray.data_extract]
  rw [Array.extract_append_extract]
  congr 1 <;> omega

theorem size_extract' (b : ByteArray) (i j : Nat) (h1 : i ≤ j) (h2 : j ≤ b.size) : (b.extract i j).size = j - i := by
  rw [ByteArray.size_extract]; omega

/-- What a run from k on, that began at start, says of the name; front bytes stand ahead of the run. -/
def RunSpec (b : ByteArray) (start front k : Nat) (r : Run) : Prop :=
  (r.fail ≠ 0 ∧ r.pointed = false ∧ r.labels = ⟨#[]⟩ ∧ nmAt b k start (front + (k - start)) = .error r.fail) ∨
  (r.fail = 0 ∧ ∃ suf, r.labels = b.extract start k ++ suf ∧ (k : Int) ≤ r.next ∧ r.next ≤ b.size ∧ front + r.labels.size ≤ 254 ∧
    ((r.pointed = false ∧ nmAt b k start (front + (k - start)) = .ok (suf ++ ⟨#[0]⟩, (r.next - k).toNat)) ∨
     (r.pointed = true ∧ 0 ≤ r.to ∧ r.to < start ∧ nmAt b k start (front + (k - start)) =
        match nmAt b r.to.toNat r.to.toNat (front + r.labels.size) with
        | .ok (s, _) => .ok (suf ++ s, (r.next - k).toNat)
        | .error e => .error e)))

theorem scan_spec (b : ByteArray) (start front : Nat) : ∀ (f k : Nat), b.size < k + f → start ≤ k → (k ≤ b.size ∨ k = start) → front + (k - start) ≤ 254 →
    RunSpec b start front k (scan b start (254 - (front : Int)) f k) := by
  intro f
  induction f with
  | zero =>
    intro k h _ _ _
    refine .inl ⟨by simp [scan, Run.bad], rfl, rfl, ?_⟩
    rw [nmAt_eq, if_pos (by omega)]; rfl
  | succ f ih =>
    intro k hf hs hk hfr
    by_cases c0 : b.size ≤ k
    · refine .inl ?_
      simp only [scan, if_pos c0]
      refine ⟨by simp [Run.bad], rfl, rfl, ?_⟩
      rw [nmAt_eq, if_pos c0]; rfl
    · by_cases c1 : bt b k = 0
      · refine .inr ?_
        simp only [scan, if_neg c0, if_pos c1]
        refine ⟨by trivial, ⟨#[]⟩, ?_, by omega, by omega, ?_, .inl ⟨by trivial, ?_⟩⟩
        · apply ByteArray.ext; simp [ByteArray.data_append]
        · rw [size_extract' _ _ _ hs (by omega)]; omega
        · rw [nmAt_eq, if_neg c0, if_pos c1, empty_append]; congr 2; omega
      · by_cases c2 : 63 < bt b k
        · simp only [scan, if_neg c0, if_neg c1, if_pos c2, ptr]
          by_cases c3 : bt b k < 192
          · refine .inl ?_
            simp only [if_pos c3]
            refine ⟨by simp [Run.bad], rfl, rfl, ?_⟩
            rw [nmAt_eq, if_neg c0, if_neg c1, if_pos c2, if_pos c3]; rfl
          · by_cases c4 : b.size ≤ k + 1
            · refine .inl ?_
              simp only [if_neg c3, if_pos c4]
              refine ⟨by simp [Run.bad], rfl, rfl, ?_⟩
              rw [nmAt_eq, if_neg c0, if_neg c1, if_pos c2, if_neg c3, if_pos c4]; rfl
            · by_cases c5 : start ≤ 256 * (bt b k - 192) + bt b (k + 1)
              · refine .inl ?_
                simp only [if_neg c3, if_neg c4, if_pos c5]
                refine ⟨by simp [Run.bad], rfl, rfl, ?_⟩
                rw [nmAt_eq, if_neg c0, if_neg c1, if_pos c2, if_neg c3, if_neg c4, if_pos c5]; rfl
              · refine .inr ?_
                simp only [if_neg c3, if_neg c4, if_neg c5]
                have hsz := size_extract' b start k hs (by omega)
                refine ⟨by trivial, ⟨#[]⟩, ?_, by omega, by omega, by rw [hsz]; omega, .inr ⟨by trivial, by omega, by omega, ?_⟩⟩
                · apply ByteArray.ext; simp [ByteArray.data_append]
                · rw [nmAt_eq, if_neg c0, if_neg c1, if_pos c2, if_neg c3, if_neg c4, if_neg c5, Int.toNat_natCast, hsz]
                  generalize nmAt b (256 * (bt b k - 192) + bt b (k + 1)) (256 * (bt b k - 192) + bt b (k + 1)) (front + (k - start)) = x
                  have e2 : ((k : Int) + 2 - k).toNat = 2 := by omega
                  rw [e2]
                  cases x with
                  | error e => rfl
                  | ok p => obtain ⟨s, t⟩ := p; simp [empty_append]
        · by_cases c3 : b.size < k + 1 + bt b k
          · refine .inl ?_
            simp only [scan, if_neg c0, if_neg c1, if_neg c2, if_pos c3]
            refine ⟨by simp [Run.bad], rfl, rfl, ?_⟩
            rw [nmAt_eq, if_neg c0, if_neg c1, if_neg c2, if_pos c3]; rfl
          · by_cases c4 : 255 < front + (k - start) + 1 + bt b k + 1
            · refine .inl ?_
              have c4' : 254 - (front : Int) < ((k + 1 + bt b k : Nat) : Int) - start := by omega
              simp only [scan, if_neg c0, if_neg c1, if_neg c2, if_neg c3, if_pos c4']
              refine ⟨by simp [Run.bad], rfl, rfl, ?_⟩
              rw [nmAt_eq, if_neg c0, if_neg c1, if_neg c2, if_neg c3, if_pos c4]; rfl
            · have c4' : ¬ (254 - (front : Int) < ((k + 1 + bt b k : Nat) : Int) - start) := by omega
              have hi := ih (k + 1 + bt b k) (by omega) (by omega) (by omega) (by omega)
              have he : scan b start (254 - (front : Int)) (f + 1) k = scan b start (254 - (front : Int)) f (k + 1 + bt b k) := by
                conv => lhs; rw [scan]
                rw [if_neg c0, if_neg c1, if_neg c2, if_neg c3, if_neg c4']
              rw [he]
              have hn : nmAt b k start (front + (k - start)) = match nmAt b (k + 1 + bt b k) start (front + (k + 1 + bt b k - start)) with
                  | .ok (s, t) => .ok (b.extract k (k + 1 + bt b k) ++ s, 1 + bt b k + t)
                  | .error e => .error e := by
                conv => lhs; rw [nmAt_eq]
                rw [if_neg c0, if_neg c1, if_neg c2, if_neg c3, if_neg c4]
                have : front + (k - start) + 1 + bt b k = front + (k + 1 + bt b k - start) := by omega
                rw [this]
                generalize nmAt b (k + 1 + bt b k) start (front + (k + 1 + bt b k - start)) = x
                cases x <;> rfl
              unfold RunSpec
              rw [hn]
              generalize scan b start (254 - (front : Int)) f (k + 1 + bt b k) = r at hi ⊢
              rcases hi with ⟨h1, h2, h0, h3⟩ | ⟨h1, suf, h2, h3, h4, h5, h6⟩
              · refine .inl ⟨h1, h2, h0, ?_⟩
                rw [h3]
              · refine .inr ⟨h1, b.extract k (k + 1 + bt b k) ++ suf, ?_, by omega, h4, h5, ?_⟩
                · rw [h2, ← append_assoc', extract_join b start k _ hs (by omega) (by omega)]
                · rcases h6 with ⟨h6, h7⟩ | ⟨h6, h7, h8, h9⟩
                  · refine .inl ⟨h6, ?_⟩
                    rw [h7]
                    simp only [append_assoc']
                    congr 2
                    omega
                  · refine .inr ⟨h6, h7, h8, ?_⟩
                    rw [h9]
                    generalize nmAt b r.to.toNat r.to.toNat (front + r.labels.size) = x
                    cases x with
                    | error e => rfl
                    | ok p =>
                      obtain ⟨s, t⟩ := p
                      simp only [append_assoc']
                      congr 2
                      omega

theorem run_spec (b : ByteArray) (start front : Nat) (hf : front ≤ 254) : RunSpec b start front start (runOf b start (254 - (front : Int))) :=
  scan_spec b start front (b.size + 1) start (by omega) (Nat.le_refl _) (.inr rfl) (by omega)

/-- What is left to be read behind a run, with the labels so far. -/
def behind (b : ByteArray) (L : ByteArray) (r : Run) : Except Int ByteArray :=
  if r.pointed then match nmAt b r.to.toNat r.to.toNat L.size with
    | .ok (s, _) => .ok (L ++ s)
    | .error e => .error e
  else if r.fail ≠ 0 then .error r.fail else .ok (L ++ ⟨#[0]⟩)

/-- A loop's round: the next run. -/
theorem behind_step (b : ByteArray) (L : ByteArray) (r : Run) (hp : r.pointed = true) (hL : L.size ≤ 254) :
    behind b L r = behind b (L ++ (runOf b r.to.toNat (254 - (L.size : Int))).labels) (runOf b r.to.toNat (254 - (L.size : Int))) ∧
    L.size + (runOf b r.to.toNat (254 - (L.size : Int))).labels.size ≤ 254 ∧
    ((runOf b r.to.toNat (254 - (L.size : Int))).pointed = true → 0 ≤ (runOf b r.to.toNat (254 - (L.size : Int))).to ∧ (runOf b r.to.toNat (254 - (L.size : Int))).to < r.to.toNat ∧ (runOf b r.to.toNat (254 - (L.size : Int))).fail = 0) := by
  have hs := run_spec b r.to.toNat L.size hL
  generalize runOf b r.to.toNat (254 - (L.size : Int)) = q at hs ⊢
  unfold RunSpec at hs
  simp only [Nat.sub_self, Nat.add_zero, extract_self, empty_append] at hs
  unfold behind
  rw [if_pos hp]
  rcases hs with ⟨h1, h2, h0, h3⟩ | ⟨h1, suf, h2, h3, h4, h5, h6⟩
  · refine ⟨?_, by rw [h0]; exact hL, fun h => by rw [h2] at h; exact absurd h (by decide)⟩
    rw [h3, h2, if_neg (by decide), if_pos h1]
  · subst h2
    rcases h6 with ⟨h6, h7⟩ | ⟨h6, h7, h8, h9⟩
    · refine ⟨?_, h5, fun h => by rw [h6] at h; exact absurd h (by decide)⟩
      rw [h7, h6, if_neg (by decide), if_neg (by rw [h1]; simp), append_assoc']
    · refine ⟨?_, h5, fun _ => ⟨h7, h8, h1⟩⟩
      rw [h9, h6, if_pos rfl, ByteArray.size_append]
      generalize nmAt b q.to.toNat q.to.toNat (L.size + q.labels.size) = x
      cases x with
      | error e => rfl
      | ok p => obtain ⟨s, t⟩ := p; simp only [append_assoc']

/-- The name at a place: it, and where it ends. -/
def nameAt (b : ByteArray) (k : Nat) : Except Int (ByteArray × Nat) := nmAt b k k 0

theorem name_first (b : ByteArray) (k : Nat) :
    (runOf b k 254).labels.size ≤ 254 ∧ ((runOf b k 254).fail = 0 → (k : Int) ≤ (runOf b k 254).next ∧ (runOf b k 254).next ≤ b.size) ∧
    ((runOf b k 254).pointed = true → 0 ≤ (runOf b k 254).to ∧ (runOf b k 254).to < k ∧ (runOf b k 254).fail = 0) ∧
    nameAt b k = match behind b (runOf b k 254).labels (runOf b k 254) with
      | .ok s => .ok (s, ((runOf b k 254).next - k).toNat)
      | .error e => .error e := by
  have hs := run_spec b k 0 (by omega)
  have e0 : (254 : Int) - ((0 : Nat) : Int) = 254 := by omega
  rw [e0] at hs
  generalize runOf b k 254 = q at hs ⊢
  unfold RunSpec at hs
  simp only [Nat.sub_self, Nat.add_zero, extract_self, empty_append, Nat.zero_add] at hs
  unfold nameAt behind
  rcases hs with ⟨h1, h2, h0, h3⟩ | ⟨h1, suf, h2, h3, h4, h5, h6⟩
  · refine ⟨by rw [h0]; exact Nat.zero_le _, fun h => absurd h h1, fun h => by rw [h2] at h; exact absurd h (by decide), ?_⟩
    rw [h3, h2, if_neg (by decide), if_pos h1]
  · subst h2
    rcases h6 with ⟨h6, h7⟩ | ⟨h6, h7, h8, h9⟩
    · refine ⟨h5, fun _ => ⟨h3, h4⟩, fun h => by rw [h6] at h; exact absurd h (by decide), ?_⟩
      rw [h7, h6, if_neg (by decide), if_neg (by rw [h1]; simp)]
    · refine ⟨h5, fun _ => ⟨h3, h4⟩, fun _ => ⟨h7, h8, h1⟩, ?_⟩
      rw [h9, h6, if_pos rfl]
      generalize nmAt b q.to.toNat q.to.toNat q.labels.size = x
      cases x with
      | error e => rfl
      | ok p => rfl

/-- Behind a run that failed there is no name. -/
theorem behind_fail (b : ByteArray) (L : ByteArray) (r : Run) (hp : r.pointed = false) (hf : r.fail ≠ 0) : behind b L r = .error r.fail := by
  unfold behind; rw [hp, if_neg (by decide), if_pos hf]
theorem behind_end (b : ByteArray) (L : ByteArray) (r : Run) (hp : r.pointed = false) (hf : r.fail = 0) : behind b L r = .ok (L ++ ⟨#[0]⟩) := by
  unfold behind; rw [hp, if_neg (by decide), if_neg (by simp [hf])]

end Go.Proofs.YtdhobdmhnocbgaaGreat.Zr
