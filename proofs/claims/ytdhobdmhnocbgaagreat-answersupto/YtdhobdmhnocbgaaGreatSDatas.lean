/-
  The plain side: what is read of a message's bytes, as functions on byte arrays. Nothing of the program is named here.
-/
/-
  The plain side of names: what one run says of the whole name.
-/
/-
  The plain side of data: what P5 says of a record's data.
-/
import Derived.Below
namespace Go.Proofs.YtdhobdmhnocbgaaGreat.Zr

/-- The byte at a place; 0 behind the end. -/
def bt (b : ByteArray) (i : Nat) : Nat := (b.data.getD i 0).toNat

theorem bt_lt (b : ByteArray) (i : Nat) : bt b i < 256 := by unfold bt; exact UInt8.toNat_lt _

theorem bt_get (b : ByteArray) (i : Nat) (h : i < b.size) : b[i].toNat = bt b i := by
  show (b.data[i]).toNat = (b.data.getD i 0).toNat
  simp [Array.getD, h]

/-- What one run of a name comes to. -/
structure Run where
  labels : ByteArray
  next : Int
  pointed : Bool
  to : Int
  fail : Int

def Run.bad (e : Int) : Run := ⟨⟨#[]⟩, 0, false, 0, e⟩

/-- The end of a run at a byte that is neither 0 nor a label's length. -/
def ptr (b : ByteArray) (start k : Nat) : Run :=
  if bt b k < 192 then Run.bad 3
  else if b.size ≤ k + 1 then Run.bad 2
  else if start ≤ 256 * (bt b k - 192) + bt b (k + 1) then Run.bad 3
  else ⟨b.extract start k, (k : Int) + 2, true, ((256 * (bt b k - 192) + bt b (k + 1) : Nat) : Int), 0⟩

/-- A run from the place k on, that began at start. -/
def scan (b : ByteArray) (start : Nat) (room : Int) : Nat → Nat → Run
  | 0, _ => Run.bad 2
  | f + 1, k =>
    if b.size ≤ k then Run.bad 2
    else if bt b k = 0 then ⟨b.extract start k, (k : Int) + 1, false, 0, 0⟩
    else if 63 < bt b k then ptr b start k
    else if b.size < k + 1 + bt b k then Run.bad 2
    else if room < ((k + 1 + bt b k : Nat) : Int) - start then Run.bad 3
    else scan b start room f (k + 1 + bt b k)

def runOf (b : ByteArray) (start : Nat) (room : Int) : Run := scan b start room (b.size + 1) start

theorem scan_fuel (b : ByteArray) (start : Nat) (room : Int) : ∀ (f g k : Nat), b.size < k + f → b.size < k + g → scan b start room f k = scan b start room g k := by
  intro f
  induction f with
  | zero => intro g k h1 h2; cases g with
    | zero => rfl
    | succ g => simp [scan]; intro h; omega
  | succ f ih => intro g k h1 h2; cases g with
    | zero => simp [scan]; intro h; omega
    | succ g =>
      simp only [scan]
      rw [ih g (k + 1 + bt b k) (by omega) (by omega)]

/-- The name that stands at a place, whole; how many bytes it takes. -/
def nm (b : ByteArray) : Nat → Nat → Nat → Nat → Except Int (ByteArray × Nat)
  | 0, _, _, _ => .error 2
  | f + 1, k, run, front =>
    if b.size ≤ k then .error 2
    else if bt b k = 0 then .ok (⟨#[0]⟩, 1)
    else if 63 < bt b k then
      if bt b k < 192 then .error 3
      else if b.size ≤ k + 1 then .error 2
      else if run ≤ 256 * (bt b k - 192) + bt b (k + 1) then .error 3
      else match nm b f (256 * (bt b k - 192) + bt b (k + 1)) (256 * (bt b k - 192) + bt b (k + 1)) front with
        | .ok (s, _) => .ok (s, 2)
        | .error e => .error e
    else if b.size < k + 1 + bt b k then .error 2
    else if 255 < front + 1 + bt b k + 1 then .error 3
    else match nm b f (k + 1 + bt b k) run (front + 1 + bt b k) with
      | .ok (s, t) => .ok (b.extract k (k + 1 + bt b k) ++ s, 1 + bt b k + t)
      | .error e => .error e

/-- So much fuel is enough. -/
def enough (b : ByteArray) (k run : Nat) : Nat := run * (b.size + 2) + (b.size + 2 - k)

theorem enough_label (b : ByteArray) (k n run : Nat) (h : k < b.size) : enough b (k + 1 + n) run < enough b k run := by
  unfold enough; omega

theorem enough_ptr (b : ByteArray) (k run to : Nat) (h : k < b.size) (ht : to < run) : enough b to to < enough b k run := by
  unfold enough
  obtain ⟨d, rfl⟩ : ∃ d, run = to + 1 + d := ⟨run - to - 1, by omega⟩
  rw [Nat.add_mul, Nat.add_mul]
  have := Nat.zero_le (d * (b.size + 2))
  omega

theorem nm_fuel (b : ByteArray) : ∀ (f g k run front : Nat), enough b k run < f → enough b k run < g → nm b f k run front = nm b g k run front := by
  intro f
  induction f with
  | zero => intro g k run front h; omega
  | succ f ih => intro g k run front h1 h2; cases g with
    | zero => omega
    | succ g =>
      simp only [nm]
      by_cases hk : b.size ≤ k
      · simp [hk]
      · simp only [hk, if_false]
        have e1 := ih g (k + 1 + bt b k) run (front + 1 + bt b k) (by have := enough_label b k (bt b k) run (by omega); omega) (by have := enough_label b k (bt b k) run (by omega); omega)
        rw [e1]
        by_cases hr : run ≤ 256 * (bt b k - 192) + bt b (k + 1)
        · simp [hr]
        · have e2 := ih g (256 * (bt b k - 192) + bt b (k + 1)) (256 * (bt b k - 192) + bt b (k + 1)) front (by have := enough_ptr b k run (256 * (bt b k - 192) + bt b (k + 1)) (by omega) (by omega); omega) (by have := enough_ptr b k run (256 * (bt b k - 192) + bt b (k + 1)) (by omega) (by omega); omega)
          rw [e2]

/-- The name at a place, of which front bytes stand ahead already. -/
def nmAt (b : ByteArray) (k run front : Nat) : Except Int (ByteArray × Nat) := nm b (enough b k run + 1) k run front

theorem nmAt_eq (b : ByteArray) (k run front : Nat) : nmAt b k run front =
    if b.size ≤ k then .error 2
    else if bt b k = 0 then .ok (⟨#[0]⟩, 1)
    else if 63 < bt b k then
      if bt b k < 192 then .error 3
      else if b.size ≤ k + 1 then .error 2
      else if run ≤ 256 * (bt b k - 192) + bt b (k + 1) then .error 3
      else match nmAt b (256 * (bt b k - 192) + bt b (k + 1)) (256 * (bt b k - 192) + bt b (k + 1)) front with
        | .ok (s, _) => .ok (s, 2)
        | .error e => .error e
    else if b.size < k + 1 + bt b k then .error 2
    else if 255 < front + 1 + bt b k + 1 then .error 3
    else match nmAt b (k + 1 + bt b k) run (front + 1 + bt b k) with
      | .ok (s, t) => .ok (b.extract k (k + 1 + bt b k) ++ s, 1 + bt b k + t)
      | .error e => .error e := by
  unfold nmAt
  conv => lhs; rw [nm]
  by_cases hk : b.size ≤ k
  · simp [hk]
  · simp only [hk, if_false]
    rw [nm_fuel b (enough b k run) (enough b (k + 1 + bt b k) run + 1) (k + 1 + bt b k) run (front + 1 + bt b k) (enough_label b k (bt b k) run (by omega)) (by omega)]
    by_cases hr : run ≤ 256 * (bt b k - 192) + bt b (k + 1)
    · simp [hr]
    · rw [nm_fuel b (enough b k run) (enough b (256 * (bt b k - 192) + bt b (k + 1)) (256 * (bt b k - 192) + bt b (k + 1)) + 1) _ _ front (enough_ptr b k run _ (by omega) (by omega)) (by omega)]

/-- The number that k bytes from a place on spell, the high byte first. -/
def num (b : ByteArray) (i : Nat) : Nat → Nat
  | 0 => 0
  | k + 1 => 256 * num b i k + bt b (i + k)

theorem num_lt (b : ByteArray) (i k : Nat) : num b i k < 256 ^ k := by
  induction k with
  | zero => simp [num]
  | succ k ih => have := bt_lt b (i + k); simp only [num, Nat.pow_succ]; omega

theorem num_lt4 (b : ByteArray) (i k : Nat) (h : k ≤ 4) : num b i k < 4294967296 := by
  have h1 := num_lt b i k
  have h2 : 256 ^ k ≤ 256 ^ 4 := Nat.pow_le_pow_right (by omega) h
  omega

theorem num_lt2 (b : ByteArray) (i : Nat) : num b i 2 < 65536 := num_lt b i 2

theorem bt_extract (b : ByteArray) (i n j : Nat) (h : j < n) (hn : i + n ≤ b.size) : bt (b.extract i (i + n)) j = bt b (i + j) := by
  have h1 : j < (b.extract i (i + n)).size := by simp [ByteArray.size_extract]; omega
  rw [← bt_get _ _ h1, ← bt_get b (i + j) (by omega)]
  simp [ByteArray.getElem_extract]

theorem num_extract (b : ByteArray) (i n : Nat) (hn : i + n ≤ b.size) : ∀ k, k ≤ n → num (b.extract i (i + n)) 0 k = num b i k := by
  intro k
  induction k with
  | zero => intro _; rfl
  | succ k ih =>
    intro hk
    simp only [num]
    rw [ih (by omega), Nat.zero_add, bt_extract b i n k (by omega) hn]

end Go.Proofs.YtdhobdmhnocbgaaGreat.Zr

namespace Go.Proofs.YtdhobdmhnocbgaaGreat.Zr

theorem extract_self (b : ByteArray) (i : Nat) : b.extract i i = ⟨#[]⟩ := by
  apply ByteArray.ext
  simp

theorem empty_append (s : ByteArray) : (⟨#[]⟩ : ByteArray) ++ s = s := by
  apply ByteArray.ext
  simp [ByteArray.data_append]

theorem append_assoc' (a b c : ByteArray) : a ++ b ++ c = a ++ (b ++ c) := by
  apply ByteArray.ext
  simp [ByteArray.data_append, Array.append_assoc]

theorem extract_join (b : ByteArray) (i j k : Nat) (h1 : i ≤ j) (h2 : j ≤ k) (h3 : k ≤ b.size) : b.extract i j ++ b.extract j k = b.extract i k := by
  apply ByteArray.ext
  have h3' : k ≤ b.data.size := h3
  simp only [ByteArray.data_append, ByteArray.data_extract]
  rw [Array.extract_append_extract]
  congr 1 <;> omega

theorem size_extract' (b : ByteArray) (i j : Nat) (h1 : i ≤ j) (h2 : j ≤ b.size) : (b.extract i j).size = j - i := by
  rw [ByteArray.size_extract]; omega

/-- What a run from k on, that began at start, says of the name; front bytes stand ahead of the run. -/
def RunSpec (b : ByteArray) (start front k : Nat) (r : Run) : Prop :=
  (r.fail ≠ 0 ∧ r.pointed = false ∧ r.labels = ⟨#[]⟩ ∧ nmAt b k start (front + (k - start)) = .error r.fail) ∨
  (r.fail = 0 ∧ ∃ suf, r.labels = b.extract start k ++ suf ∧ (k : Int) ≤ r.next ∧ r.next ≤ b.size ∧ front + r.labels.size ≤ 254 ∧
    ((r.pointed = false ∧ nmAt b k start (front + (k - start)) = .ok (suf ++ ⟨#[0]⟩, (r.next - k).toNat)) ∨
     (r.pointed = true ∧ 0 ≤ r.to ∧ r.to < start ∧ nmAt b k start (front + (k - start)) =
        match nmAt b r.to.toNat r.to.toNat (front + r.labels.size) with
        | .ok (s, _) => .ok (suf ++ s, (r.next - k).toNat)
        | .error e => .error e)))

theorem scan_spec (b : ByteArray) (start front : Nat) : ∀ (f k : Nat), b.size < k + f → start ≤ k → (k ≤ b.size ∨ k = start) → front + (k - start) ≤ 254 →
    RunSpec b start front k (scan b start (254 - (front : Int)) f k) := by
  intro f
  induction f with
  | zero =>
    intro k h _ _ _
    refine .inl ⟨by simp [scan, Run.bad], rfl, rfl, ?_⟩
    rw [nmAt_eq, if_pos (by omega)]; rfl
  | succ f ih =>
    intro k hf hs hk hfr
    by_cases c0 : b.size ≤ k
    · refine .inl ?_
      simp only [scan, if_pos c0]
      refine ⟨by simp [Run.bad], rfl, rfl, ?_⟩
      rw [nmAt_eq, if_pos c0]; rfl
    · by_cases c1 : bt b k = 0
      · refine .inr ?_
        simp only [scan, if_neg c0, if_pos c1]
        refine ⟨by trivial, ⟨#[]⟩, ?_, by omega, by omega, ?_, .inl ⟨by trivial, ?_⟩⟩
        · apply ByteArray.ext; simp [ByteArray.data_append]
        · rw [size_extract' _ _ _ hs (by omega)]; omega
        · rw [nmAt_eq, if_neg c0, if_pos c1, empty_append]; congr 2; omega
      · by_cases c2 : 63 < bt b k
        · simp only [scan, if_neg c0, if_neg c1, if_pos c2, ptr]
          by_cases c3 : bt b k < 192
          · refine .inl ?_
            simp only [if_pos c3]
            refine ⟨by simp [Run.bad], rfl, rfl, ?_⟩
            rw [nmAt_eq, if_neg c0, if_neg c1, if_pos c2, if_pos c3]; rfl
          · by_cases c4 : b.size ≤ k + 1
            · refine .inl ?_
              simp only [if_neg c3, if_pos c4]
              refine ⟨by simp [Run.bad], rfl, rfl, ?_⟩
              rw [nmAt_eq, if_neg c0, if_neg c1, if_pos c2, if_neg c3, if_pos c4]; rfl
            · by_cases c5 : start ≤ 256 * (bt b k - 192) + bt b (k + 1)
              · refine .inl ?_
                simp only [if_neg c3, if_neg c4, if_pos c5]
                refine ⟨by simp [Run.bad], rfl, rfl, ?_⟩
                rw [nmAt_eq, if_neg c0, if_neg c1, if_pos c2, if_neg c3, if_neg c4, if_pos c5]; rfl
              · refine .inr ?_
                simp only [if_neg c3, if_neg c4, if_neg c5]
                have hsz := size_extract' b start k hs (by omega)
                refine ⟨by trivial, ⟨#[]⟩, ?_, by omega, by omega, by rw [hsz]; omega, .inr ⟨by trivial, by omega, by omega, ?_⟩⟩
                · apply ByteArray.ext; simp [ByteArray.data_append]
                · rw [nmAt_eq, if_neg c0, if_neg c1, if_pos c2, if_neg c3, if_neg c4, if_neg c5, Int.toNat_natCast, hsz]
                  generalize nmAt b (256 * (bt b k - 192) + bt b (k + 1)) (256 * (bt b k - 192) + bt b (k + 1)) (front + (k - start)) = x
                  have e2 : ((k : Int) + 2 - k).toNat = 2 := by omega
                  rw [e2]
                  cases x with
                  | error e => rfl
                  | ok p => obtain ⟨s, t⟩ := p; simp [empty_append]
        · by_cases c3 : b.size < k + 1 + bt b k
          · refine .inl ?_
            simp only [scan, if_neg c0, if_neg c1, if_neg c2, if_pos c3]
            refine ⟨by simp [Run.bad], rfl, rfl, ?_⟩
            rw [nmAt_eq, if_neg c0, if_neg c1, if_neg c2, if_pos c3]; rfl
          · by_cases c4 : 255 < front + (k - start) + 1 + bt b k + 1
            · refine .inl ?_
              have c4' : 254 - (front : Int) < ((k + 1 + bt b k : Nat) : Int) - start := by omega
              simp only [scan, if_neg c0, if_neg c1, if_neg c2, if_neg c3, if_pos c4']
              refine ⟨by simp [Run.bad], rfl, rfl, ?_⟩
              rw [nmAt_eq, if_neg c0, if_neg c1, if_neg c2, if_neg c3, if_pos c4]; rfl
            · have c4' : ¬ (254 - (front : Int) < ((k + 1 + bt b k : Nat) : Int) - start) := by omega
              have hi := ih (k + 1 + bt b k) (by omega) (by omega) (by omega) (by omega)
              have he : scan b start (254 - (front : Int)) (f + 1) k = scan b start (254 - (front : Int)) f (k + 1 + bt b k) := by
                conv => lhs; rw [scan]
                rw [if_neg c0, if_neg c1, if_neg c2, if_neg c3, if_neg c4']
              rw [he]
              have hn : nmAt b k start (front + (k - start)) = match nmAt b (k + 1 + bt b k) start (front + (k + 1 + bt b k - start)) with
                  | .ok (s, t) => .ok (b.extract k (k + 1 + bt b k) ++ s, 1 + bt b k + t)
                  | .error e => .error e := by
                conv => lhs; rw [nmAt_eq]
                rw [if_neg c0, if_neg c1, if_neg c2, if_neg c3, if_neg c4]
                have : front + (k - start) + 1 + bt b k = front + (k + 1 + bt b k - start) := by omega
                rw [this]
                generalize nmAt b (k + 1 + bt b k) start (front + (k + 1 + bt b k - start)) = x
                cases x <;> rfl
              unfold RunSpec
              rw [hn]
              generalize scan b start (254 - (front : Int)) f (k + 1 + bt b k) = r at hi ⊢
              rcases hi with ⟨h1, h2, h0, h3⟩ | ⟨h1, suf, h2, h3, h4, h5, h6⟩
              · refine .inl ⟨h1, h2, h0, ?_⟩
                rw [h3]
              · refine .inr ⟨h1, b.extract k (k + 1 + bt b k) ++ suf, ?_, by omega, h4, h5, ?_⟩
                · rw [h2, ← append_assoc', extract_join b start k _ hs (by omega) (by omega)]
                · rcases h6 with ⟨h6, h7⟩ | ⟨h6, h7, h8, h9⟩
                  · refine .inl ⟨h6, ?_⟩
                    rw [h7]
                    simp only [append_assoc']
                    congr 2
                    omega
                  · refine .inr ⟨h6, h7, h8, ?_⟩
                    rw [h9]
                    generalize nmAt b r.to.toNat r.to.toNat (front + r.labels.size) = x
                    cases x with
                    | error e => rfl
                    | ok p =>
                      obtain ⟨s, t⟩ := p
                      simp only [append_assoc']
                      congr 2
                      omega

theorem run_spec (b : ByteArray) (start front : Nat) (hf : front ≤ 254) : RunSpec b start front start (runOf b start (254 - (front : Int))) :=
  scan_spec b start front (b.size + 1) start (by omega) (Nat.le_refl _) (.inr rfl) (by omega)

/-- What is left to be read behind a run, with the labels so far. -/
def behind (b : ByteArray) (L : ByteArray) (r : Run) : Except Int ByteArray :=
  if r.pointed then match nmAt b r.to.toNat r.to.toNat L.size with
    | .ok (s, _) => .ok (L ++ s)
    | .error e => .error e
  else if r.fail ≠ 0 then .error r.fail else .ok (L ++ ⟨#[0]⟩)

/-- A loop's round: the next run. -/
theorem behind_step (b : ByteArray) (L : ByteArray) (r : Run) (hp : r.pointed = true) (hL : L.size ≤ 254) :
    behind b L r = behind b (L ++ (runOf b r.to.toNat (254 - (L.size : Int))).labels) (runOf b r.to.toNat (254 - (L.size : Int))) ∧
    L.size + (runOf b r.to.toNat (254 - (L.size : Int))).labels.size ≤ 254 ∧
    ((runOf b r.to.toNat (254 - (L.size : Int))).pointed = true → 0 ≤ (runOf b r.to.toNat (254 - (L.size : Int))).to ∧ (runOf b r.to.toNat (254 - (L.size : Int))).to < r.to.toNat ∧ (runOf b r.to.toNat (254 - (L.size : Int))).fail = 0) := by
  have hs := run_spec b r.to.toNat L.size hL
  generalize runOf b r.to.toNat (254 - (L.size : Int)) = q at hs ⊢
  unfold RunSpec at hs
  simp only [Nat.sub_self, Nat.add_zero, extract_self, empty_append] at hs
  unfold behind
  rw [if_pos hp]
  rcases hs with ⟨h1, h2, h0, h3⟩ | ⟨h1, suf, h2, h3, h4, h5, h6⟩
  · refine ⟨?_, by rw [h0]; exact hL, fun h => by rw [h2] at h; exact absurd h (by decide)⟩
    rw [h3, h2, if_neg (by decide), if_pos h1]
  · subst h2
    rcases h6 with ⟨h6, h7⟩ | ⟨h6, h7, h8, h9⟩
    · refine ⟨?_, h5, fun h => by rw [h6] at h; exact absurd h (by decide)⟩
      rw [h7, h6, if_neg (by decide), if_neg (by rw [h1]; simp), append_assoc']
    · refine ⟨?_, h5, fun _ => ⟨h7, h8, h1⟩⟩
      rw [h9, h6, if_pos rfl, ByteArray.size_append]
      generalize nmAt b q.to.toNat q.to.toNat (L.size + q.labels.size) = x
      cases x with
      | error e => rfl
      | ok p => obtain ⟨s, t⟩ := p; simp only [append_assoc']

/-- The name at a place: it, and where it ends. -/
def nameAt (b : ByteArray) (k : Nat) : Except Int (ByteArray × Nat) := nmAt b k k 0

theorem name_first (b : ByteArray) (k : Nat) :
    (runOf b k 254).labels.size ≤ 254 ∧ ((runOf b k 254).fail = 0 → (k : Int) ≤ (runOf b k 254).next ∧ (runOf b k 254).next ≤ b.size) ∧
    ((runOf b k 254).pointed = true → 0 ≤ (runOf b k 254).to ∧ (runOf b k 254).to < k ∧ (runOf b k 254).fail = 0) ∧
    nameAt b k = match behind b (runOf b k 254).labels (runOf b k 254) with
      | .ok s => .ok (s, ((runOf b k 254).next - k).toNat)
      | .error e => .error e := by
  have hs := run_spec b k 0 (by omega)
  have e0 : (254 : Int) - ((0 : Nat) : Int) = 254 := by omega
  rw [e0] at hs
  generalize runOf b k 254 = q at hs ⊢
  unfold RunSpec at hs
  simp only [Nat.sub_self, Nat.add_zero, extract_self, empty_append, Nat.zero_add] at hs
  unfold nameAt behind
  rcases hs with ⟨h1, h2, h0, h3⟩ | ⟨h1, suf, h2, h3, h4, h5, h6⟩
  · refine ⟨by rw [h0]; exact Nat.zero_le _, fun h => absurd h h1, fun h => by rw [h2] at h; exact absurd h (by decide), ?_⟩
    rw [h3, h2, if_neg (by decide), if_pos h1]
  · subst h2
    rcases h6 with ⟨h6, h7⟩ | ⟨h6, h7, h8, h9⟩
    · refine ⟨h5, fun _ => ⟨h3, h4⟩, fun h => by rw [h6] at h; exact absurd h (by decide), ?_⟩
      rw [h7, h6, if_neg (by decide), if_neg (by rw [h1]; simp)]
    · refine ⟨h5, fun _ => ⟨h3, h4⟩, fun _ => ⟨h7, h8, h1⟩, ?_⟩
      rw [h9, h6, if_pos rfl]
      generalize nmAt b q.to.toNat q.to.toNat q.labels.size = x
      cases x with
      | error e => rfl
      | ok p => rfl

/-- Behind a run that failed there is no name. -/
theorem behind_fail (b : ByteArray) (L : ByteArray) (r : Run) (hp : r.pointed = false) (hf : r.fail ≠ 0) : behind b L r = .error r.fail := by
  unfold behind; rw [hp, if_neg (by decide), if_pos hf]
theorem behind_end (b : ByteArray) (L : ByteArray) (r : Run) (hp : r.pointed = false) (hf : r.fail = 0) : behind b L r = .ok (L ++ ⟨#[0]⟩) := by
  unfold behind; rw [hp, if_neg (by decide), if_neg (by simp [hf])]

end Go.Proofs.YtdhobdmhnocbgaaGreat.Zr

namespace Go.Proofs.YtdhobdmhnocbgaaGreat.Zr

/-- A row of pieces from the place k on: a bytes of any values, a number of wd bytes, and so many bytes as it says. -/
def rowF (s : ByteArray) (a wd : Nat) : Nat → Nat → Bool
  | 0, _ => true
  | f + 1, k =>
    if s.size ≤ k then true
    else if s.size < k + a then false
    else if s.size < k + a + wd then false
    else if s.size < k + a + wd + num s (k + a) wd then false
    else rowF s a wd f (k + a + wd + num s (k + a) wd)

def rowB (s : ByteArray) (a wd : Nat) : Bool := rowF s a wd (s.size + 1) 0

theorem rowF_fuel (s : ByteArray) (a wd : Nat) (hw : 1 ≤ wd) : ∀ (f g k : Nat), s.size < k + f → s.size < k + g → rowF s a wd f k = rowF s a wd g k := by
  intro f
  induction f with
  | zero => intro g k h1 h2; cases g with
    | zero => rfl
    | succ g => simp only [rowF]; rw [if_pos (by omega)]
  | succ f ih => intro g k h1 h2; cases g with
    | zero => simp only [rowF]; rw [if_pos (by omega)]
    | succ g =>
      simp only [rowF]
      rw [ih g _ (by omega) (by omega)]

/-- Is it the data of an SRV? -/
def svcB (s : ByteArray) : Bool := (runOf s 6 254).fail == 0 && !(runOf s 6 254).pointed && (runOf s 6 254).next == s.size

def flatB (t : Nat) (s : ByteArray) : Bool :=
  if t = 1 then s.size == 4
  else if t = 28 then s.size == 16
  else if t = 33 then svcB s
  else if t = 16 then s.size != 0 && rowB s 0 1
  else if t = 41 then rowB s 2 2
  else true

/-- So many names, one behind the other. -/
def namesTo (b : ByteArray) (k : Nat) : Nat → Except Int (ByteArray × Nat)
  | 0 => .ok (⟨#[]⟩, k)
  | i + 1 => match namesTo b k i with
    | .error e => .error e
    | .ok (s, p) => match nameAt b p with
      | .error e => .error e
      | .ok (x, t) => .ok (s ++ x, p + t)

def wn (b : ByteArray) (k n names rest : Nat) : Option ByteArray :=
  match namesTo b k names with
  | .error _ => none
  | .ok (s, p) => if p + rest = k + n then some (s ++ b.extract p (p + rest)) else none

/-- The data of a type that stand at a place, n bytes, their names whole. -/
def dataP (b : ByteArray) (k n t : Nat) : Option ByteArray :=
  if t = 2 ∨ t = 5 ∨ t = 12 then wn b k n 1 0
  else if t = 6 then wn b k n 2 20
  else if flatB t (b.extract k (k + n)) then some (b.extract k (k + n)) else none

theorem namesTo_err (b : ByteArray) (k j : Nat) (x : Int) (h : namesTo b k j = .error x) : ∀ i, j ≤ i → ∃ y, namesTo b k i = .error y := by
  intro i hi
  obtain ⟨d, rfl⟩ : ∃ d, i = j + d := ⟨i - j, by omega⟩
  clear hi
  induction d with
  | zero => exact ⟨x, h⟩
  | succ d ih =>
    obtain ⟨y, hy⟩ := ih
    exact ⟨y, by rw [← Nat.add_assoc, namesTo, hy]⟩

theorem wn_err (b : ByteArray) (k n m more : Nat) (x : Int) (h : namesTo b k m = .error x) : wn b k n m more = none := by
  unfold wn; rw [h]
theorem wn_no (b : ByteArray) (k n m more : Nat) (s : ByteArray) (p : Nat) (h : namesTo b k m = .ok (s, p)) (hp : p + more ≠ k + n) : wn b k n m more = none := by
  unfold wn; rw [h]; simp only; rw [if_neg hp]
theorem wn_yes (b : ByteArray) (k n m more : Nat) (s : ByteArray) (p : Nat) (h : namesTo b k m = .ok (s, p)) (hp : p + more = k + n) : wn b k n m more = some (s ++ b.extract p (p + more)) := by
  unfold wn; rw [h]; simp only; rw [if_pos hp]

/-- A name takes at least one byte, at most 255, and ends within the bytes. -/
theorem nmAt_bounds (b : ByteArray) : ∀ (f k run front : Nat), front ≤ 254 → ∀ s t, nm b f k run front = .ok (s, t) → 1 ≤ t ∧ k + t ≤ b.size ∧ front + s.size ≤ 255 := by
  intro f
  induction f with
  | zero => intro k run front _ s t h; simp [nm] at h
  | succ f ih =>
    intro k run front hf s t h
    rw [nm] at h
    by_cases c0 : b.size ≤ k
    · rw [if_pos c0] at h; simp at h
    · rw [if_neg c0] at h
      by_cases c1 : bt b k = 0
      · rw [if_pos c1] at h
        simp only [Except.ok.injEq, Prod.mk.injEq] at h
        obtain ⟨rfl, rfl⟩ := h
        refine ⟨by omega, by omega, ?_⟩
        show front + 1 ≤ 255
        omega
      · rw [if_neg c1] at h
        by_cases c2 : 63 < bt b k
        · rw [if_pos c2] at h
          by_cases c3 : bt b k < 192
          · rw [if_pos c3] at h; simp at h
          · rw [if_neg c3] at h
            by_cases c4 : b.size ≤ k + 1
            · rw [if_pos c4] at h; simp at h
            · rw [if_neg c4] at h
              by_cases c5 : run ≤ 256 * (bt b k - 192) + bt b (k + 1)
              · rw [if_pos c5] at h; simp at h
              · rw [if_neg c5] at h
                have hi := ih (256 * (bt b k - 192) + bt b (k + 1)) (256 * (bt b k - 192) + bt b (k + 1)) front hf
                generalize nm b f (256 * (bt b k - 192) + bt b (k + 1)) (256 * (bt b k - 192) + bt b (k + 1)) front = x at h hi
                cases x with
                | error e => simp at h
                | ok p =>
                  obtain ⟨s', t'⟩ := p
                  simp only [Except.ok.injEq, Prod.mk.injEq] at h
                  obtain ⟨rfl, rfl⟩ := h
                  have := hi s' t' rfl
                  exact ⟨by omega, by omega, this.2.2⟩
        · rw [if_neg c2] at h
          by_cases c3 : b.size < k + 1 + bt b k
          · rw [if_pos c3] at h; simp at h
          · rw [if_neg c3] at h
            by_cases c4 : 255 < front + 1 + bt b k + 1
            · rw [if_pos c4] at h; simp at h
            · rw [if_neg c4] at h
              have hi := ih (k + 1 + bt b k) run (front + 1 + bt b k) (by omega)
              generalize nm b f (k + 1 + bt b k) run (front + 1 + bt b k) = x at h hi
              cases x with
              | error e => simp at h
              | ok p =>
                obtain ⟨s', t'⟩ := p
                simp only [Except.ok.injEq, Prod.mk.injEq] at h
                obtain ⟨rfl, rfl⟩ := h
                have := hi s' t' rfl
                refine ⟨by omega, by omega, ?_⟩
                rw [ByteArray.size_append, size_extract' _ _ _ (by omega) (by omega)]
                omega

theorem nameAt_bounds (b : ByteArray) (k : Nat) (s : ByteArray) (t : Nat) (h : nameAt b k = .ok (s, t)) : 1 ≤ t ∧ k + t ≤ b.size ∧ s.size ≤ 255 := by
  have := nmAt_bounds b _ k k 0 (by omega) s t h
  exact ⟨this.1, this.2.1, by omega⟩

theorem namesTo_bounds (b : ByteArray) (k : Nat) (hk : k ≤ b.size) : ∀ i s p, namesTo b k i = .ok (s, p) → k ≤ p ∧ p ≤ b.size ∧ s.size ≤ 255 * i := by
  intro i
  induction i with
  | zero =>
    intro s p h
    simp only [namesTo, Except.ok.injEq, Prod.mk.injEq] at h
    obtain ⟨rfl, rfl⟩ := h
    exact ⟨Nat.le_refl _, hk, by simp [ByteArray.size]⟩
  | succ i ih =>
    intro s p h
    rw [namesTo] at h
    generalize namesTo b k i = x at h ih
    cases x with
    | error e => simp at h
    | ok q =>
      obtain ⟨s', p'⟩ := q
      simp only at h
      obtain ⟨h1, h2, h3⟩ := ih s' p' rfl
      have hb := nameAt_bounds b p'
      generalize nameAt b p' = y at h hb
      cases y with
      | error e => simp at h
      | ok z =>
        obtain ⟨x', t'⟩ := z
        simp only [Except.ok.injEq, Prod.mk.injEq] at h
        obtain ⟨rfl, rfl⟩ := h
        obtain ⟨g1, g2, g3⟩ := hb x' t' rfl
        exact ⟨by omega, by omega, by rw [ByteArray.size_append]; omega⟩

end Go.Proofs.YtdhobdmhnocbgaaGreat.Zr
