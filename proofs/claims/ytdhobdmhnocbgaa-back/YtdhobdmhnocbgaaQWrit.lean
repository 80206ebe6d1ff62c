/-
  The plain side of writing: short names, with what is known; that they are read back.
-/
import Derived.Test.YtdhobdmhnocbgaaQRefP
namespace Go.Proofs.Ytdhobdmhnocbgaa.Zr

/-- From the place k on, the bytes are labels and a root, to their end. -/
inductive Tl (s : ByteArray) : Nat → Prop
  | root (k : Nat) : k + 1 = s.size → bt s k = 0 → Tl s k
  | lab (k : Nat) : 1 ≤ bt s k → bt s k ≤ 63 → Tl s (k + 1 + bt s k) → Tl s k

theorem Tl.lt {s : ByteArray} {k : Nat} (h : Tl s k) : k < s.size := by
  induction h with
  | root k h1 h2 => omega
  | lab k h1 h2 h3 ih => omega

theorem bt_append (a b : ByteArray) (i : Nat) : bt (a ++ b) i = if i < a.size then bt a i else bt b (i - a.size) := by
  by_cases h : i < a.size
  · rw [if_pos h]
    have h1 : i < (a ++ b).size := by rw [ByteArray.size_append]; omega
    rw [← bt_get _ _ h1, ← bt_get _ _ h]
    rw [ByteArray.getElem_append_left h]
  · rw [if_neg h]
    by_cases h2 : i < (a ++ b).size
    · rw [← bt_get _ _ h2]
      have h3 : i - a.size < b.size := by rw [ByteArray.size_append] at h2; omega
      rw [← bt_get _ _ h3, ByteArray.getElem_append_right (by omega)]
    · rw [ByteArray.size_append] at h2
      unfold bt
      have h4 : b.data.size ≤ i - a.size := by show b.size ≤ _; omega
      have h5 : (a ++ b).data.size ≤ i := by show (a ++ b).size ≤ _; rw [ByteArray.size_append]; omega
      simp only [Array.getD]
      rw [dif_neg (by omega), dif_neg (by omega)]

theorem bt_ext {a b : ByteArray} (h : a.size = b.size) (h2 : ∀ i, i < a.size → bt a i = bt b i) : a = b := by
  apply ByteArray.ext
  apply Array.ext
  · exact h
  · intro i h3 h4
    have := h2 i h3
    rw [← bt_get a i h3, ← bt_get b i h4] at this
    exact UInt8.toNat_inj.1 this

theorem bt_ex (b : ByteArray) (i j k : Nat) (h : k < j - i) (hj : j ≤ b.size) : bt (b.extract i j) k = bt b (i + k) := by
  have h1 : k < (b.extract i j).size := by rw [ByteArray.size_extract]; omega
  rw [← bt_get _ _ h1, ← bt_get b (i + k) (by omega)]
  simp [ByteArray.getElem_extract]

/-- Bytes that stand somewhere are what is read there. -/
theorem extract_eq (B s : ByteArray) (p k e : Nat) (hk : k ≤ e) (he : e ≤ s.size) (hp : p + (e - k) ≤ B.size) (h : ∀ j, k ≤ j → j < e → bt B (p + (j - k)) = bt s j) : B.extract p (p + (e - k)) = s.extract k e := by
  apply bt_ext
  · rw [ByteArray.size_extract, ByteArray.size_extract]; omega
  · intro i hi
    rw [ByteArray.size_extract] at hi
    rw [bt_ex B p _ i (by omega) hp, bt_ex s k e i (by omega) he]
    have := h (k + i) (by omega) (by omega)
    rw [show k + i - k = i by omega] at this
    exact this

/-- What is known: tails, and the places at which they are. -/
def findK : List (ByteArray × Nat) → ByteArray → Option Nat
  | [], _ => none
  | p :: l, s => if p.1 = s then some p.2 else findK l s

theorem findK_mem : ∀ (K : List (ByteArray × Nat)) (s : ByteArray) (h : Nat), findK K s = some h → (s, h) ∈ K := by
  intro K
  induction K with
  | nil => intro s h e; simp [findK] at e
  | cons p l ih =>
    intro s h e
    rw [findK] at e
    by_cases c : p.1 = s
    · rw [if_pos c] at e
      simp only [Option.some.injEq] at e
      subst c; subst e
      simp
    · rw [if_neg c] at e
      exact List.mem_cons_of_mem _ (ih s h e)

theorem findK_at : ∀ (K : List (ByteArray × Nat)) (s : ByteArray) (i : Nat) (hi : i < K.length), (∀ j (hj : j < i), K[j].1 ≠ s) → K[i].1 = s → findK K s = some K[i].2 := by
  intro K
  induction K with
  | nil => intro s i hi; simp at hi
  | cons p l ih =>
    intro s i hi h1 h2
    cases i with
    | zero => simp only [List.getElem_cons_zero] at h2 ⊢; rw [findK, if_pos h2]
    | succ i =>
      have h0 := h1 0 (by omega)
      simp only [List.getElem_cons_zero] at h0
      rw [findK, if_neg h0]
      simp only [List.getElem_cons_succ] at h2 ⊢
      exact ih s i (by simpa using hi) (fun j hj => by have := h1 (j + 1) (by omega); simpa using this) h2

theorem findK_none : ∀ (K : List (ByteArray × Nat)) (s : ByteArray), (∀ j (hj : j < K.length), K[j].1 ≠ s) → findK K s = none := by
  intro K
  induction K with
  | nil => intro s _; rfl
  | cons p l ih =>
    intro s h1
    have h0 := h1 0 (by simp)
    simp only [List.getElem_cons_zero] at h0
    rw [findK, if_neg h0]
    exact ih s (fun j hj => by have := h1 (j + 1) (by simpa using hj); simpa using this)

theorem findK_append : ∀ (K l : List (ByteArray × Nat)) (s : ByteArray), (∀ p, p ∈ l → p.1 ≠ s) → findK (K ++ l) s = findK K s := by
  intro K
  induction K with
  | nil =>
    intro l s h
    refine findK_none _ _ (fun j hj => h _ (List.getElem_mem _))
  | cons p K ih =>
    intro l s h
    rw [List.cons_append, findK, findK, ih l s h]

/-- A number of two bytes. -/
def wd (n : Nat) : ByteArray := ⟨#[UInt8.ofNat (n / 256), UInt8.ofNat (n % 256)]⟩

theorem wd_size (n : Nat) : (wd n).size = 2 := rfl
theorem wd_0 (n : Nat) (h : n < 65536) : bt (wd n) 0 = n / 256 := by
  show (UInt8.ofNat (n / 256)).toNat = _
  rw [UInt8.toNat_ofNat']; omega
theorem wd_1 (n : Nat) : bt (wd n) 1 = n % 256 := by
  show (UInt8.ofNat (n % 256)).toNat = _
  rw [UInt8.toNat_ofNat']; omega

def learn1 (s : ByteArray) (h : Nat) : List (ByteArray × Nat) := if h ≤ 16383 then [(s, h)] else []

/-- What is written of a name from the place k on, and what becomes known by it; p: the place at which the name begins. -/
def shF (K : List (ByteArray × Nat)) (s : ByteArray) (p : Nat) : Nat → Nat → ByteArray × List (ByteArray × Nat)
  | 0, _ => (⟨#[]⟩, [])
  | f + 1, k =>
    if s.size < k + 2 then (s.extract k s.size, [])
    else match findK K (s.extract k s.size) with
      | some to => (wd (49152 + to), [])
      | none => (s.extract k (k + 1 + bt s k) ++ (shF K s p f (k + 1 + bt s k)).1, learn1 (s.extract k s.size) (p + k) ++ (shF K s p f (k + 1 + bt s k)).2)

def short (K : List (ByteArray × Nat)) (s : ByteArray) (p : Nat) : ByteArray × List (ByteArray × Nat) := shF K s p (s.size + 1) 0

/-- Each tail that is known is read where it is known, whatever becomes of the bytes at the places Q, and behind the end. -/
def Inv (Q : Nat → Prop) (B : ByteArray) (K : List (ByteArray × Nat)) : Prop :=
  ∀ n h, (n, h) ∈ K → h ≤ 16383 ∧ h < B.size ∧ n.size ≤ 255 ∧ ∀ B' : ByteArray, B.size ≤ B'.size → (∀ i, i < B.size → ¬ Q i → bt B' i = bt B i) → ∀ front, front + n.size ≤ 255 → ∃ t, nmAt B' h h front = .ok (n, t)

theorem Inv.nil (Q : Nat → Prop) (B : ByteArray) : Inv Q B [] := fun n h hm => by simp at hm

theorem Inv.append {Q : Nat → Prop} {B : ByteArray} {K : List (ByteArray × Nat)} (h : Inv Q B K) (s : ByteArray) : Inv Q (B ++ s) K := by
  intro n k hm
  obtain ⟨h1, h2, h3, h4⟩ := h n k hm
  refine ⟨h1, by rw [ByteArray.size_append]; omega, h3, fun B' hs ha front hf => ?_⟩
  rw [ByteArray.size_append] at hs
  refine h4 B' (by omega) (fun i hi hq => ?_) front hf
  rw [ha i (by rw [ByteArray.size_append]; omega) hq, bt_append, if_pos hi]

/-- Places from the end on may be left open. -/
theorem Inv.open {B : ByteArray} {K : List (ByteArray × Nat)} (h : Inv (fun _ => False) B K) (s : ByteArray) : Inv (fun i => B.size ≤ i ∧ i < B.size + s.size) (B ++ s) K := by
  intro n k hm
  obtain ⟨h1, h2, h3, h4⟩ := h n k hm
  refine ⟨h1, by rw [ByteArray.size_append]; omega, h3, fun B' hs ha front hf => ?_⟩
  rw [ByteArray.size_append] at hs
  refine h4 B' (by omega) (fun i hi _ => ?_) front hf
  rw [ha i (by rw [ByteArray.size_append]; omega) (by omega), bt_append, if_pos hi]

theorem Inv.shut {Q : Nat → Prop} {B B2 : ByteArray} {K : List (ByteArray × Nat)} (h : Inv Q B K) (hs : B.size = B2.size) (ha : ∀ i, i < B.size → ¬ Q i → bt B2 i = bt B i) : Inv (fun _ => False) B2 K := by
  intro n k hm
  obtain ⟨h1, h2, h3, h4⟩ := h n k hm
  refine ⟨h1, by omega, h3, fun B' hs' ha' front hf => ?_⟩
  refine h4 B' (by omega) (fun i hi hq => ?_) front hf
  rw [ha' i (by omega) (fun h => h), ha i hi hq]

theorem Inv.read {Q : Nat → Prop} {B : ByteArray} {K : List (ByteArray × Nat)} (h : Inv Q B K) (n : ByteArray) (k : Nat) (hm : (n, k) ∈ K) : ∃ t, nameAt B k = .ok (n, t) := by
  obtain ⟨h1, h2, h3, h4⟩ := h n k hm
  exact h4 B (Nat.le_refl _) (fun _ _ _ => rfl) 0 (by omega)

theorem nmAt_root (b : ByteArray) (k run front : Nat) (h : k < b.size) (h0 : bt b k = 0) : nmAt b k run front = .ok (⟨#[0]⟩, 1) := by
  rw [nmAt_eq, if_neg (by omega), if_pos h0]

/-- What is written of a name is read back, and so is each tail that becomes known. -/
theorem shF_read (Q : Nat → Prop) (B : ByteArray) (K : List (ByteArray × Nat)) (s : ByteArray) (hI : Inv Q B K) (h255 : s.size ≤ 255) : ∀ (f k : Nat), s.size < k + f → Tl s k → ∀ (B' : ByteArray),
    B.size ≤ B'.size → (∀ i, i < B.size → ¬ Q i → bt B' i = bt B i) →
    B.size + k + (shF K s B.size f k).1.size ≤ B'.size → (∀ j, j < (shF K s B.size f k).1.size → bt B' (B.size + k + j) = bt (shF K s B.size f k).1 j) →
    (∀ run front, B.size ≤ run → front + (s.size - k) ≤ 255 → nmAt B' (B.size + k) run front = .ok (s.extract k s.size, (shF K s B.size f k).1.size)) ∧
    (∀ n h, (n, h) ∈ (shF K s B.size f k).2 → h ≤ 16383 ∧ B.size ≤ h ∧ h < B.size + k + (shF K s B.size f k).1.size ∧ n.size ≤ 255 ∧ ∀ front, front + n.size ≤ 255 → ∃ t, nmAt B' h h front = .ok (n, t)) := by
  intro f
  induction f with
  | zero => intro k hf ht; have := ht.lt; omega
  | succ f ih =>
    intro k hf ht B' hB ha
    by_cases c : s.size < k + 2
    · have e1 : shF K s B.size (f + 1) k = (s.extract k s.size, []) := by rw [shF, if_pos c]
      rw [e1]
      intro hsz hbt
      have hk : k + 1 = s.size ∧ bt s k = 0 := by
        cases ht with
        | root _ h1 h2 => exact ⟨h1, h2⟩
        | lab _ h1 h2 h3 => have := h3.lt; omega
      have hs1 : (s.extract k s.size).size = 1 := by rw [ByteArray.size_extract]; omega
      rw [hs1] at hsz hbt
      refine ⟨fun run front hr hfr => ?_, fun n h hm => by simp at hm⟩
      have h0 := hbt 0 (by omega)
      rw [bt_ex s k _ 0 (by omega) (Nat.le_refl _), Nat.add_zero, Nat.add_zero, hk.2] at h0
      rw [nmAt_root _ _ _ _ (by omega) h0, hs1]
      have e2 := single_of s k (by omega) hk.2
      rw [hk.1] at e2
      rw [e2]
    · cases hfd : findK K (s.extract k s.size) with
      | some to =>
        have e1 : shF K s B.size (f + 1) k = (wd (49152 + to), []) := by rw [shF, if_neg c, hfd]
        rw [e1]
        simp only [wd_size]
        intro hsz hbt
        refine ⟨fun run front hr hfr => ?_, fun n h hm => by simp at hm⟩
        obtain ⟨g1, g2, g3, g4⟩ := hI _ _ (findK_mem K _ to hfd)
        have hse : (s.extract k s.size).size = s.size - k := by rw [ByteArray.size_extract]; omega
        obtain ⟨t, g5⟩ := g4 B' hB ha front (by omega)
        have b0 := hbt 0 (by omega)
        have b1 := hbt 1 (by omega)
        rw [wd_0 _ (by omega), Nat.add_zero] at b0
        rw [wd_1] at b1
        have e2 : 256 * (bt B' (B.size + k) - 192) + bt B' (B.size + k + 1) = to := by rw [b0, b1]; omega
        rw [nmAt_eq, if_neg (by omega), if_neg (by omega), if_pos (by omega), if_neg (by omega), if_neg (by omega), e2, if_neg (by omega), g5]
      | none =>
        have e1 : shF K s B.size (f + 1) k = (s.extract k (k + 1 + bt s k) ++ (shF K s B.size f (k + 1 + bt s k)).1, learn1 (s.extract k s.size) (B.size + k) ++ (shF K s B.size f (k + 1 + bt s k)).2) := by rw [shF, if_neg c, hfd]
        rw [e1]
        simp only
        intro hsz hbt
        obtain ⟨h1, h2, h3⟩ : 1 ≤ bt s k ∧ bt s k ≤ 63 ∧ Tl s (k + 1 + bt s k) := by
          cases ht with
          | root _ h1 h2 => omega
          | lab _ h1 h2 h3 => exact ⟨h1, h2, h3⟩
        have hlt := h3.lt
        have hse : (s.extract k (k + 1 + bt s k)).size = 1 + bt s k := by rw [ByteArray.size_extract]; omega
        rw [ByteArray.size_append, hse] at hsz hbt ⊢
        have hi := ih (k + 1 + bt s k) (by omega) h3 B' hB ha (by omega) (fun j hj => by
          have := hbt (1 + bt s k + j) (by omega)
          rw [bt_append, if_neg (by omega), hse, show 1 + bt s k + j - (1 + bt s k) = j by omega] at this
          rw [← this]; congr 1; omega)
        obtain ⟨i1, i2⟩ := hi
        have hl : ∀ j, k ≤ j → j < k + 1 + bt s k → bt B' (B.size + k + (j - k)) = bt s j := fun j hj1 hj2 => by
          have := hbt (j - k) (by omega)
          rw [bt_append, if_pos (by omega), bt_ex s k _ (j - k) (by omega) (by omega), show k + (j - k) = j by omega] at this
          exact this
        have hb0 := hl k (by omega) (by omega)
        rw [Nat.sub_self, Nat.add_zero] at hb0
        have hrd : ∀ run front, B.size ≤ run → front + (s.size - k) ≤ 255 → nmAt B' (B.size + k) run front = .ok (s.extract k s.size, 1 + bt s k + (shF K s B.size f (k + 1 + bt s k)).1.size) := by
          intro run front hr hfr
          have i3 := i1 run (front + 1 + bt s k) hr (by omega)
          have e4 := extract_eq B' s (B.size + k) k (k + 1 + bt s k) (by omega) (by omega) (by omega) hl
          rw [show B.size + k + (k + 1 + bt s k - k) = B.size + k + 1 + bt s k by omega] at e4
          rw [show B.size + (k + 1 + bt s k) = B.size + k + 1 + bt s k by omega] at i3
          rw [nmAt_eq, hb0, if_neg (by omega), if_neg (by omega), if_neg (by omega), if_neg (by omega), if_neg (by omega), i3, e4]
          simp only
          rw [extract_join s k (k + 1 + bt s k) s.size (by omega) (by omega) (Nat.le_refl _)]
        refine ⟨hrd, fun n h hm => ?_⟩
        rcases List.mem_append.1 hm with hm | hm
        · unfold learn1 at hm
          by_cases c3 : B.size + k ≤ 16383
          · rw [if_pos c3] at hm
            simp only [List.mem_singleton, Prod.mk.injEq] at hm
            obtain ⟨rfl, rfl⟩ := hm
            have hse2 : (s.extract k s.size).size = s.size - k := by rw [ByteArray.size_extract]; omega
            refine ⟨c3, by omega, by omega, by omega, fun front hfr => ⟨_, hrd _ front (by omega) (by omega)⟩⟩
          · rw [if_neg c3] at hm; simp at hm
        · obtain ⟨j1, j2, j3, j4, j5⟩ := i2 n h hm
          exact ⟨j1, j2, by omega, j4, j5⟩

/-- A name that is written short: it is read back, and what is known stays known. -/
theorem short_read (Q : Nat → Prop) (B : ByteArray) (K : List (ByteArray × Nat)) (s : ByteArray) (hQ : ∀ i, Q i → i < B.size) (hI : Inv Q B K) (h255 : s.size ≤ 255) (ht : Tl s 0) :
    Inv Q (B ++ (short K s B.size).1) (K ++ (short K s B.size).2) ∧
    (∀ B' : ByteArray, (B ++ (short K s B.size).1).size ≤ B'.size → (∀ i, i < (B ++ (short K s B.size).1).size → ¬ Q i → bt B' i = bt (B ++ (short K s B.size).1) i) → nameAt B' B.size = .ok (s, (short K s B.size).1.size)) := by
  unfold short
  have key : ∀ B' : ByteArray, (B ++ (shF K s B.size (s.size + 1) 0).1).size ≤ B'.size → (∀ i, i < (B ++ (shF K s B.size (s.size + 1) 0).1).size → ¬ Q i → bt B' i = bt (B ++ (shF K s B.size (s.size + 1) 0).1) i) → _ :=
    fun B' h1 h2 => shF_read Q B K s hI h255 (s.size + 1) 0 (by omega) ht B' (by rw [ByteArray.size_append] at h1; omega)
      (fun i hi hq => by rw [h2 i (by rw [ByteArray.size_append]; omega) hq, bt_append, if_pos hi])
      (by rw [ByteArray.size_append] at h1; omega)
      (fun j hj => by
        rw [h2 (B.size + 0 + j) (by rw [ByteArray.size_append]; omega) (fun hq => by have := hQ _ hq; omega), bt_append, if_neg (by omega)]
        congr 1; omega)
  refine ⟨?_, fun B' h1 h2 => ?_⟩
  · intro n h hm
    rcases List.mem_append.1 hm with hm | hm
    · exact (hI.append _) n h hm
    · have k2 := (key _ (Nat.le_refl _) (fun _ _ _ => rfl)).2 n h hm
      refine ⟨k2.1, by rw [ByteArray.size_append]; omega, k2.2.2.2.1, fun B' h1 h2 front hf => ?_⟩
      exact ((key B' h1 h2).2 n h hm).2.2.2.2 front hf
  · have k1 := (key B' h1 h2).1 B.size 0 (Nat.le_refl _) (by omega)
    have e : s.extract 0 s.size = s := by apply ByteArray.ext; simp
    rw [e, Nat.add_zero] at k1
    exact k1

/-- A flat name is labels and a root. -/
theorem tl_of_nm (s : ByteArray) : ∀ (f k front : Nat), front ≤ 254 → ∀ (x : ByteArray) (t : Nat), nm s f k 0 front = .ok (x, t) → k + t = s.size → Tl s k := by
  intro f
  induction f with
  | zero => intro k front _ x t h; simp [nm] at h
  | succ f ih =>
    intro k front hf x t h he
    rw [nm] at h
    by_cases c0 : s.size ≤ k
    · rw [if_pos c0] at h; simp at h
    rw [if_neg c0] at h
    by_cases c1 : bt s k = 0
    · rw [if_pos c1] at h
      simp only [Except.ok.injEq, Prod.mk.injEq] at h
      exact .root k (by omega) c1
    rw [if_neg c1] at h
    by_cases c2 : 63 < bt s k
    · rw [if_pos c2] at h
      by_cases c3 : bt s k < 192
      · rw [if_pos c3] at h; simp at h
      rw [if_neg c3] at h
      by_cases c4 : s.size ≤ k + 1
      · rw [if_pos c4] at h; simp at h
      rw [if_neg c4, if_pos (Nat.zero_le _)] at h
      simp at h
    rw [if_neg c2] at h
    by_cases c3 : s.size < k + 1 + bt s k
    · rw [if_pos c3] at h; simp at h
    rw [if_neg c3] at h
    by_cases c4 : 255 < front + 1 + bt s k + 1
    · rw [if_pos c4] at h; simp at h
    rw [if_neg c4] at h
    have hi := ih (k + 1 + bt s k) (front + 1 + bt s k) (by omega)
    generalize nm s f (k + 1 + bt s k) 0 (front + 1 + bt s k) = y at h hi
    cases y with
    | error e => simp at h
    | ok z =>
      obtain ⟨x', t'⟩ := z
      simp only [Except.ok.injEq, Prod.mk.injEq] at h
      exact .lab k (by omega) (by omega) (hi x' t' rfl (by omega))

/-- Labels and a root are read where they stand. -/
theorem tl_read (s : ByteArray) : ∀ k, Tl s k → ∀ (B : ByteArray) (p run front : Nat), p + (s.size - k) ≤ B.size → (∀ j, k ≤ j → j < s.size → bt B (p + (j - k)) = bt s j) → front + (s.size - k) ≤ 255 →
    nmAt B p run front = .ok (s.extract k s.size, s.size - k) := by
  intro k ht
  induction ht with
  | root k h1 h2 =>
    intro B p run front hp hb hf
    have h0 := hb k (Nat.le_refl _) (by omega)
    rw [Nat.sub_self, Nat.add_zero, h2] at h0
    rw [nmAt_root _ _ _ _ (by omega) h0]
    have e2 := single_of s k (by omega) h2
    rw [h1] at e2
    rw [e2]
    congr 2
    omega
  | lab k h1 h2 h3 ih =>
    intro B p run front hp hb hf
    have hlt := h3.lt
    have h0 := hb k (Nat.le_refl _) (by omega)
    rw [Nat.sub_self, Nat.add_zero] at h0
    have i3 := ih B (p + 1 + bt s k) run (front + 1 + bt s k) (by omega) (fun j hj1 hj2 => by
      have := hb j (by omega) hj2
      rw [← this]; congr 1; omega) (by omega)
    have e4 := extract_eq B s p k (k + 1 + bt s k) (by omega) (by omega) (by omega) (fun j hj1 hj2 => hb j hj1 (by omega))
    rw [show p + (k + 1 + bt s k - k) = p + 1 + bt s k by omega] at e4
    rw [nmAt_eq, h0, if_neg (by omega), if_neg (by omega), if_neg (by omega), if_neg (by omega), if_neg (by omega), i3, e4]
    simp only
    rw [extract_join s k (k + 1 + bt s k) s.size (by omega) (by omega) (Nat.le_refl _)]
    congr 2
    omega

theorem extract_all (s : ByteArray) : s.extract 0 s.size = s := by apply ByteArray.ext; simp

/-- A name, whole. -/
theorem whole_iff (s : ByteArray) : wholeB s = true ↔ Tl s 0 ∧ s.size ≤ 255 := by
  constructor
  · intro h
    unfold wholeB at h
    cases hx : nameAt s 0 with
    | error e => rw [hx] at h; simp at h
    | ok z =>
      obtain ⟨x, t⟩ := z
      rw [hx] at h
      simp only [Bool.and_eq_true, beq_iff_eq, decide_eq_true_eq] at h
      obtain ⟨rfl, rfl⟩ := h
      have hb := nameAt_bounds x 0 x x.size hx
      exact ⟨tl_of_nm x _ 0 0 (by omega) x x.size hx (by omega), hb.2.2⟩
  · intro ⟨h1, h2⟩
    have h3 := tl_read s 0 h1 s 0 0 0 (by omega) (fun j _ hj => by congr 1; omega) (by omega)
    rw [extract_all] at h3
    unfold wholeB
    have h4 : nameAt s 0 = .ok (s, s.size - 0) := h3
    rw [h4]
    simp

/-- Four bytes. -/
def q4 (n : Nat) : ByteArray := wd (n / 65536) ++ wd (n % 65536)

theorem q4_size (n : Nat) : (q4 n).size = 4 := by unfold q4; rw [ByteArray.size_append, wd_size, wd_size]

end Go.Proofs.Ytdhobdmhnocbgaa.Zr
