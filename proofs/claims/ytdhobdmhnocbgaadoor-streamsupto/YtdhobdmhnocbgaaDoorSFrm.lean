/-
  The plain side of writing: short names, with what is known; that they are read back.
-/
/-
  Plain: a stream, cut into messages; a stream that comes in chunks.
-/
/-
  Plain: messages one behind the other as a stream; a stream's front, cut.
-/
import Derived.Test.YtdhobdmhnocbgaaDoorSRefP
namespace Go.Proofs.YtdhobdmhnocbgaaDoor.Zr

/-- From the place k on, the bytes are labels and a root, to their end. -/
inductive Tl (s : ByteArray) : Nat → Prop
  | root (k : Nat) : k + 1 = s.size → bt s k = 0 → Tl s k
  | lab (k : Nat) : 1 ≤ bt s k → bt s k ≤ 63 → Tl s (k + 1 + bt s k) → Tl s k

theorem Tl.lt {s : ByteArray} {k : Nat} (h : Tl s k) : k < s.size := by
  induction h with
  | root k h1 h2 => omega
  | lab k h1 h2 h3 ih => omega

theorem bt_append (a b : ByteArray) (i : Nat) : bt (a ++ b) i = if i < a.size then bt a i else bt b (i - a.size) := by
  by_cases h : i < a.size
  · rw [if_pos h]
    have h1 : i < (a ++ b).size := by rw [ByteArray.size_append]; omega
    rw [← bt_get _ _ h1, ← bt_get _ _ h]
    rw [ByteArray.getElem_append_left h]
  · rw [if_neg h]
    by_cases h2 : i < (a ++ b).size
    · rw [← bt_get _ _ h2]
      have h3 : i - a.size < b.size := by rw [ByteArray.size_append] at h2; omega
      rw [← bt_get _ _ h3, ByteArray.getElem_append_right (by omega)]
    · rw [ByteArray.size_append] at h2
      unfold bt
      have h4 : b.data.size ≤ i - a.size := by show b.size ≤ _; omega
      have h5 : (a ++ b).data.size ≤ i := by show (a ++ b).size ≤ _; rw [ByteArray.size_append]; omega
      simp only [Array.getD]
      rw [dif_neg (by omega), dif_neg (by omega)]

theorem bt_ext {a b : ByteArray} (h : a.size = b.size) (h2 : ∀ i, i < a.size → bt a i = bt b i) : a = b := by
  apply ByteArray.ext
  apply Array.ext
  · exact h
  · intro i h3 h4
    have := h2 i h3
    rw [← bt_get a i h3, ← bt_get b i h4] at this
    exact UInt8.toNat_inj.1 this

theorem bt_ex (b : ByteArray) (i j k : Nat) (h : k < j - i) (hj : j ≤ b.size) : bt (b.extract i j) k = bt b (i + k) := by
  have h1 : k < (b.extract i j).size := by rw [ByteArray.size_extract]; omega
  rw [← bt_get _ _ h1, ← bt_get b (i + k) (by omega)]
  simp [ByteArray.getElem_extract]

/-- What is known: tails, and the places at which they are. -/
def findK : List (ByteArray × Nat) → ByteArray → Option Nat
  | [], _ => none
  | p :: l, s => if p.1 = s then some p.2 else findK l s

/-- A number of two bytes. -/
def wd (n : Nat) : ByteArray := ⟨#[UInt8.ofNat (n / 256), UInt8.ofNat (n % 256)]⟩

theorem wd_size (n : Nat) : (wd n).size = 2 := rfl
def learn1 (s : ByteArray) (h : Nat) : List (ByteArray × Nat) := if h ≤ 16383 then [(s, h)] else []

/-- What is written of a name from the place k on, and what becomes known by it; p: the place at which the name begins. -/
def shF (K : List (ByteArray × Nat)) (s : ByteArray) (p : Nat) : Nat → Nat → ByteArray × List (ByteArray × Nat)
  | 0, _ => (⟨#[]⟩, [])
  | f + 1, k =>
    if s.size < k + 2 then (s.extract k s.size, [])
    else match findK K (s.extract k s.size) with
      | some to => (wd (49152 + to), [])
      | none => (s.extract k (k + 1 + bt s k) ++ (shF K s p f (k + 1 + bt s k)).1, learn1 (s.extract k s.size) (p + k) ++ (shF K s p f (k + 1 + bt s k)).2)

def short (K : List (ByteArray × Nat)) (s : ByteArray) (p : Nat) : ByteArray × List (ByteArray × Nat) := shF K s p (s.size + 1) 0

/-- Each tail that is known is read where it is known, whatever becomes of the bytes at the places Q, and behind the end. -/
def Inv (Q : Nat → Prop) (B : ByteArray) (K : List (ByteArray × Nat)) : Prop :=
  ∀ n h, (n, h) ∈ K → h ≤ 16383 ∧ h < B.size ∧ n.size ≤ 255 ∧ ∀ B' : ByteArray, B.size ≤ B'.size → (∀ i, i < B.size → ¬ Q i → bt B' i = bt B i) → ∀ front, front + n.size ≤ 255 → ∃ t, nmAt B' h h front = .ok (n, t)

theorem Inv.nil (Q : Nat → Prop) (B : ByteArray) : Inv Q B [] := fun n h hm => by simp at hm

theorem Inv.append {Q : Nat → Prop} {B : ByteArray} {K : List (ByteArray × Nat)} (h : Inv Q B K) (s : ByteArray) : Inv Q (B ++ s) K := by
  intro n k hm
  obtain ⟨h1, h2, h3, h4⟩ := h n k hm
  refine ⟨h1, by rw [ByteArray.size_append]; omega, h3, fun B' hs ha front hf => ?_⟩
  rw [ByteArray.size_append] at hs
  refine h4 B' (by omega) (fun i hi hq => ?_) front hf
  rw [ha i (by rw [ByteArray.size_append]; omega) hq, bt_append, if_pos hi]

/-- Places from the end on may be left open. -/
theorem Inv.open {B : ByteArray} {K : List (ByteArray × Nat)} (h : Inv (fun _ => False) B K) (s : ByteArray) : Inv (fun i => B.size ≤ i ∧ i < B.size + s.size) (B ++ s) K := by
  intro n k hm
  obtain ⟨h1, h2, h3, h4⟩ := h n k hm
  refine ⟨h1, by rw [ByteArray.size_append]; omega, h3, fun B' hs ha front hf => ?_⟩
  rw [ByteArray.size_append] at hs
  refine h4 B' (by omega) (fun i hi _ => ?_) front hf
  rw [ha i (by rw [ByteArray.size_append]; omega) (by omega), bt_append, if_pos hi]

theorem Inv.read {Q : Nat → Prop} {B : ByteArray} {K : List (ByteArray × Nat)} (h : Inv Q B K) (n : ByteArray) (k : Nat) (hm : (n, k) ∈ K) : ∃ t, nameAt B k = .ok (n, t) := by
  obtain ⟨h1, h2, h3, h4⟩ := h n k hm
  exact h4 B (Nat.le_refl _) (fun _ _ _ => rfl) 0 (by omega)

theorem extract_all (s : ByteArray) : s.extract 0 s.size = s := by apply ByteArray.ext; simp

/-- Four bytes. -/
def q4 (n : Nat) : ByteArray := wd (n / 65536) ++ wd (n % 65536)

end Go.Proofs.YtdhobdmhnocbgaaDoor.Zr

namespace Go.Proofs.YtdhobdmhnocbgaaDoor.Zr

/-- The messages that are whole from k on, and how many bytes are left behind them. -/
def cutP (s : ByteArray) (k : Nat) : List ByteArray × Nat :=
  if _h : k + 2 ≤ s.size ∧ k + 2 + num s k 2 ≤ s.size then
    (s.extract (k + 2) (k + 2 + num s k 2) :: (cutP s (k + 2 + num s k 2)).1, (cutP s (k + 2 + num s k 2)).2)
  else ([], s.size - k)
termination_by s.size - k

theorem cut_no {s : ByteArray} {k : Nat} (h : ¬ (k + 2 ≤ s.size ∧ k + 2 + num s k 2 ≤ s.size)) : cutP s k = ([], s.size - k) := by
  rw [cutP, dif_neg h]
theorem cut_yes {s : ByteArray} {k : Nat} (h : k + 2 ≤ s.size ∧ k + 2 + num s k 2 ≤ s.size) : cutP s k = (s.extract (k + 2) (k + 2 + num s k 2) :: (cutP s (k + 2 + num s k 2)).1, (cutP s (k + 2 + num s k 2)).2) := by
  rw [cutP, dif_pos h]

theorem num_left (a b : ByteArray) (k : Nat) : ∀ n, k + n ≤ a.size → num (a ++ b) k n = num a k n
  | 0, _ => rfl
  | n + 1, h => by
    unfold num
    rw [num_left a b k n (by omega), bt_append, if_pos (by omega)]

theorem ext_left (a b : ByteArray) (i j : Nat) (h1 : i ≤ j) (h2 : j ≤ a.size) : (a ++ b).extract i j = a.extract i j := by
  have hs : (a ++ b).size = a.size + b.size := ByteArray.size_append
  refine bt_ext ?_ fun k hk => ?_
  · rw [size_extract' _ _ _ h1 (by omega), size_extract' _ _ _ h1 h2]
  · rw [size_extract' _ _ _ h1 (by omega)] at hk
    rw [bt_ex _ _ _ _ hk (by omega), bt_ex _ _ _ _ hk h2, bt_append, if_pos (by omega)]

theorem ext_mid (s : ByteArray) (k i j : Nat) (h1 : i ≤ j) (h2 : k + j ≤ s.size) : (s.extract k s.size).extract i j = s.extract (k + i) (k + j) := by
  have hs := extract_size s k (by omega)
  refine bt_ext ?_ fun m hm => ?_
  · rw [size_extract' _ _ _ h1 (by omega), size_extract' _ _ _ (by omega) h2]
    omega
  · rw [size_extract' _ _ _ h1 (by omega)] at hm
    rw [bt_ex _ _ _ _ hm (by omega), bt_ex _ _ _ _ (by omega) h2, bt_tail _ _ _ (by omega)]
    congr 1
    omega

theorem cut_le (s : ByteArray) (k : Nat) : (cutP s k).2 ≤ s.size - k := by
  by_cases h : k + 2 ≤ s.size ∧ k + 2 + num s k 2 ≤ s.size
  · rw [cut_yes h]
    have := cut_le s (k + 2 + num s k 2)
    simp only
    omega
  · rw [cut_no h]
    exact Nat.le_refl _
termination_by s.size - k

/-- What is whole stays so when more comes. -/
theorem cut_append (a b : ByteArray) (k : Nat) (hk : k ≤ a.size) : cutP (a ++ b) k = ((cutP a k).1 ++ (cutP (a ++ b) (a.size - (cutP a k).2)).1, (cutP (a ++ b) (a.size - (cutP a k).2)).2) := by
  have hs : (a ++ b).size = a.size + b.size := ByteArray.size_append
  by_cases h : k + 2 ≤ a.size ∧ k + 2 + num a k 2 ≤ a.size
  · have e := num_left a b k 2 h.1
    have h' : k + 2 ≤ (a ++ b).size ∧ k + 2 + num (a ++ b) k 2 ≤ (a ++ b).size := by rw [e]; omega
    have ih := cut_append a b (k + 2 + num a k 2) h.2
    rw [cut_yes h', cut_yes h, e, ext_left a b _ _ (by omega) h.2]
    have i1 := congrArg Prod.fst ih
    have i2 := congrArg Prod.snd ih
    simp only at i1 i2
    simp only [List.cons_append]
    rw [i1, i2]
  · rw [cut_no h]
    simp only [List.nil_append]
    rw [show a.size - (a.size - k) = k by omega]
termination_by a.size - k

theorem cut_shift (s : ByteArray) (k j : Nat) (hk : k ≤ s.size) : cutP s (k + j) = cutP (s.extract k s.size) j := by
  have hs := extract_size s k hk
  by_cases h : k + j + 2 ≤ s.size ∧ k + j + 2 + num s (k + j) 2 ≤ s.size
  · have e := num_tail s k j 2 (by omega)
    have h' : j + 2 ≤ (s.extract k s.size).size ∧ j + 2 + num (s.extract k s.size) j 2 ≤ (s.extract k s.size).size := by rw [e]; omega
    have ih := cut_shift s k (j + 2 + num s (k + j) 2) hk
    rw [cut_yes h, cut_yes h', e, ext_mid s k _ _ (by omega) (by omega), ← ih]
    rw [show k + j + 2 + num s (k + j) 2 = k + (j + 2 + num s (k + j) 2) by omega, show k + j + 2 = k + (j + 2) by omega]
  · have h' : ¬ (j + 2 ≤ (s.extract k s.size).size ∧ j + 2 + num (s.extract k s.size) j 2 ≤ (s.extract k s.size).size) := fun h' => by
      have e := num_tail s k j 2 (by omega)
      rw [e] at h'
      exact h (by omega)
    rw [cut_no h, cut_no h']
    rw [show (s.extract k s.size).size - j = s.size - (k + j) by omega]
termination_by s.size - j

/-- What is left behind the whole messages. -/
def leftP (s : ByteArray) : ByteArray := s.extract (s.size - (cutP s 0).2) s.size

theorem left_size (s : ByteArray) : (leftP s).size = (cutP s 0).2 := by
  have := cut_le s 0
  unfold leftP
  rw [extract_size _ _ (by omega)]
  omega

theorem tail_append (a b : ByteArray) (k : Nat) (h : k ≤ a.size) : (a ++ b).extract k (a ++ b).size = a.extract k a.size ++ b := by
  have hs : (a ++ b).size = a.size + b.size := ByteArray.size_append
  have h1 := extract_size a k h
  refine bt_ext ?_ fun m hm => ?_
  · rw [extract_size (a ++ b) k (by omega), ByteArray.size_append, ByteArray.size_append, h1]
    omega
  · rw [extract_size _ _ (by omega)] at hm
    rw [bt_tail _ _ _ (by omega), bt_append, bt_append, h1]
    by_cases c : k + m < a.size
    · rw [if_pos c, if_pos (by omega), bt_tail _ _ _ c]
    · rw [if_neg c, if_neg (by omega)]
      congr 1
      omega

/-- A chunk more: the old messages, and those of what was left and the chunk. -/
theorem cut_chunk (a b : ByteArray) : cutP (a ++ b) 0 = ((cutP a 0).1 ++ (cutP (leftP a ++ b) 0).1, (cutP (leftP a ++ b) 0).2) := by
  have h := cut_le a 0
  have hs : (a ++ b).size = a.size + b.size := ByteArray.size_append
  have e := cut_append a b 0 (Nat.zero_le _)
  have e2 := cut_shift (a ++ b) (a.size - (cutP a 0).2) 0 (by omega)
  rw [tail_append a b _ (by omega)] at e2
  rw [Nat.add_zero] at e2
  rw [e2] at e
  exact e

theorem left_chunk (a b : ByteArray) : leftP (a ++ b) = leftP (leftP a ++ b) := by
  have h := cut_le a 0
  have h2 := cut_le (leftP a ++ b) 0
  have hs : (a ++ b).size = a.size + b.size := ByteArray.size_append
  have hl := left_size a
  have hs2 : (leftP a ++ b).size = (leftP a).size + b.size := ByteArray.size_append
  have e : (cutP (a ++ b) 0).2 = (cutP (leftP a ++ b) 0).2 := by rw [cut_chunk]
  have hx : (leftP a ++ b).size = (a ++ b).size - (a.size - (cutP a 0).2) := by omega
  have t2 : (a ++ b).extract (a.size - (cutP a 0).2) (a ++ b).size = leftP a ++ b := tail_append a b (a.size - (cutP a 0).2) (by omega)
  have m := ext_mid (a ++ b) (a.size - (cutP a 0).2) ((leftP a ++ b).size - (cutP (leftP a ++ b) 0).2) (leftP a ++ b).size (by omega) (by omega)
  rw [t2] at m
  show (a ++ b).extract ((a ++ b).size - (cutP (a ++ b) 0).2) (a ++ b).size = (leftP a ++ b).extract ((leftP a ++ b).size - (cutP (leftP a ++ b) 0).2) (leftP a ++ b).size
  rw [e, m]
  congr 1 <;> omega

end Go.Proofs.YtdhobdmhnocbgaaDoor.Zr

namespace Go.Proofs.YtdhobdmhnocbgaaDoor.Zr

def frameP : List ByteArray → ByteArray
  | [] => ⟨#[]⟩
  | x :: l => wd x.size ++ x ++ frameP l

/-- How many bytes messages take in a stream. -/
def heldP : List ByteArray → Nat
  | [] => 0
  | x :: l => 2 + x.size + heldP l

theorem frame_size : ∀ l, (frameP l).size = heldP l
  | [] => rfl
  | x :: l => by
    show (wd x.size ++ x ++ frameP l).size = 2 + x.size + heldP l
    rw [ByteArray.size_append, ByteArray.size_append, wd_size, frame_size l]

theorem frame_append : ∀ a b, frameP (a ++ b) = frameP a ++ frameP b
  | [], b => by show frameP b = ⟨#[]⟩ ++ frameP b; exact (ByteArray.empty_append).symm
  | x :: a, b => by
    show wd x.size ++ x ++ frameP (a ++ b) = wd x.size ++ x ++ frameP a ++ frameP b
    rw [frame_append a b, ← ByteArray.append_assoc]

theorem held_append : ∀ a b, heldP (a ++ b) = heldP a + heldP b
  | [], b => (Nat.zero_add _).symm
  | x :: a, b => by
    show 2 + x.size + heldP (a ++ b) = 2 + x.size + heldP a + heldP b
    rw [held_append a b]
    omega

end Go.Proofs.YtdhobdmhnocbgaaDoor.Zr
