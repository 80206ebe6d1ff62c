/-
  Plain: a stream, cut into messages; a stream that comes in chunks.
-/
import Derived.Test.YtdhobdmhnocbgaaWrit
import Derived.Test.YtdhobdmhnocbgaaRefP
namespace Go.Proofs.Ytdhobdmhnocbgaa.Zr

/-- The messages that are whole from k on, and how many bytes are left behind them. -/
def cutP (s : ByteArray) (k : Nat) : List ByteArray × Nat :=
  if _h : k + 2 ≤ s.size ∧ k + 2 + num s k 2 ≤ s.size then
    (s.extract (k + 2) (k + 2 + num s k 2) :: (cutP s (k + 2 + num s k 2)).1, (cutP s (k + 2 + num s k 2)).2)
  else ([], s.size - k)
termination_by s.size - k

theorem cut_no {s : ByteArray} {k : Nat} (h : ¬ (k + 2 ≤ s.size ∧ k + 2 + num s k 2 ≤ s.size)) : cutP s k = ([], s.size - k) := by
  rw [cutP, dif_neg h]
theorem cut_yes {s : ByteArray} {k : Nat} (h : k + 2 ≤ s.size ∧ k + 2 + num s k 2 ≤ s.size) : cutP s k = (s.extract (k + 2) (k + 2 + num s k 2) :: (cutP s (k + 2 + num s k 2)).1, (cutP s (k + 2 + num s k 2)).2) := by
  rw [cutP, dif_pos h]

theorem num_left (a b : ByteArray) (k : Nat) : ∀ n, k + n ≤ a.size → num (a ++ b) k n = num a k n
  | 0, _ => rfl
  | n + 1, h => by
    unfold num
    rw [num_left a b k n (by omega), bt_append, if_pos (by omega)]

theorem ext_left (a b : ByteArray) (i j : Nat) (h1 : i ≤ j) (h2 : j ≤ a.size) : (a ++ b).extract i j = a.extract i j := by
  have hs : (a ++ b).size = a.size + b.size := ByteArray.size_append
  refine bt_ext ?_ fun k hk => ?_
  · rw [size_extract' _ _ _ h1 (by omega), size_extract' _ _ _ h1 h2]
  · rw [size_extract' _ _ _ h1 (by omega)] at hk
    rw [bt_ex _ _ _ _ hk (by omega), bt_ex _ _ _ _ hk h2, bt_append, if_pos (by omega)]

theorem ext_mid (s : ByteArray) (k i j : Nat) (h1 : i ≤ j) (h2 : k + j ≤ s.size) : (s.extract k s.size).extract i j = s.extract (k + i) (k + j) := by
  have hs := extract_size s k (by omega)
  refine bt_ext ?_ fun m hm => ?_
  · rw [size_extract' _ _ _ h1 (by omega), size_extract' _ _ _ (by omega) h2]
    omega
  · rw [size_extract' _ _ _ h1 (by omega)] at hm
    rw [bt_ex _ _ _ _ hm (by omega), bt_ex _ _ _ _ (by omega) h2, bt_tail _ _ _ (by omega)]
    congr 1
    omega

theorem cut_le (s : ByteArray) (k : Nat) : (cutP s k).2 ≤ s.size - k := by
  by_cases h : k + 2 ≤ s.size ∧ k + 2 + num s k 2 ≤ s.size
  · rw [cut_yes h]
    have := cut_le s (k + 2 + num s k 2)
    simp only
    omega
  · rw [cut_no h]
    exact Nat.le_refl _
termination_by s.size - k

/-- What is whole stays so when more comes. -/
theorem cut_append (a b : ByteArray) (k : Nat) (hk : k ≤ a.size) : cutP (a ++ b) k = ((cutP a k).1 ++ (cutP (a ++ b) (a.size - (cutP a k).2)).1, (cutP (a ++ b) (a.size - (cutP a k).2)).2) := by
  have hs : (a ++ b).size = a.size + b.size := ByteArray.size_append
  by_cases h : k + 2 ≤ a.size ∧ k + 2 + num a k 2 ≤ a.size
  · have e := num_left a b k 2 h.1
    have h' : k + 2 ≤ (a ++ b).size ∧ k + 2 + num (a ++ b) k 2 ≤ (a ++ b).size := by rw [e]; omega
    have ih := cut_append a b (k + 2 + num a k 2) h.2
    rw [cut_yes h', cut_yes h, e, ext_left a b _ _ (by omega) h.2]
    have i1 := congrArg Prod.fst ih
    have i2 := congrArg Prod.snd ih
    simp only at i1 i2
    simp only [List.cons_append]
    rw [i1, i2]
  · rw [cut_no h]
    simp only [List.nil_append]
    rw [show a.size - (a.size - k) = k by omega]
termination_by a.size - k

theorem cut_shift (s : ByteArray) (k j : Nat) (hk : k ≤ s.size) : cutP s (k + j) = cutP (s.extract k s.size) j := by
  have hs := extract_size s k hk
  by_cases h : k + j + 2 ≤ s.size ∧ k + j + 2 + num s (k + j) 2 ≤ s.size
  · have e := num_tail s k j 2 (by omega)
    have h' : j + 2 ≤ (s.extract k s.size).size ∧ j + 2 + num (s.extract k s.size) j 2 ≤ (s.extract k s.size).size := by rw [e]; omega
    have ih := cut_shift s k (j + 2 + num s (k + j) 2) hk
    rw [cut_yes h, cut_yes h', e, ext_mid s k _ _ (by omega) (by omega), ← ih]
    rw [show k + j + 2 + num s (k + j) 2 = k + (j + 2 + num s (k + j) 2) by omega, show k + j + 2 = k + (j + 2) by omega]
  · have h' : ¬ (j + 2 ≤ (s.extract k s.size).size ∧ j + 2 + num (s.extract k s.size) j 2 ≤ (s.extract k s.size).size) := fun h' => by
      have e := num_tail s k j 2 (by omega)
      rw [e] at h'
      exact h (by omega)
    rw [cut_no h, cut_no h']
    rw [show (s.extract k s.size).size - j = s.size - (k + j) by omega]
termination_by s.size - j

/-- What is left behind the whole messages. -/
def leftP (s : ByteArray) : ByteArray := s.extract (s.size - (cutP s 0).2) s.size

theorem left_size (s : ByteArray) : (leftP s).size = (cutP s 0).2 := by
  have := cut_le s 0
  unfold leftP
  rw [extract_size _ _ (by omega)]
  omega

theorem tail_append (a b : ByteArray) (k : Nat) (h : k ≤ a.size) : (a ++ b).extract k (a ++ b).size = a.extract k a.size ++ b := by
  have hs : (a ++ b).size = a.size + b.size := ByteArray.size_append
  have h1 := extract_size a k h
  refine bt_ext ?_ fun m hm => ?_
  · rw [extract_size (a ++ b) k (by omega), ByteArray.size_append, ByteArray.size_append, h1]
    omega
  · rw [extract_size _ _ (by omega)] at hm
    rw [bt_tail _ _ _ (by omega), bt_append, bt_append, h1]
    by_cases c : k + m < a.size
    · rw [if_pos c, if_pos (by omega), bt_tail _ _ _ c]
    · rw [if_neg c, if_neg (by omega)]
      congr 1
      omega

/-- A chunk more: the old messages, and those of what was left and the chunk. -/
theorem cut_chunk (a b : ByteArray) : cutP (a ++ b) 0 = ((cutP a 0).1 ++ (cutP (leftP a ++ b) 0).1, (cutP (leftP a ++ b) 0).2) := by
  have h := cut_le a 0
  have hs : (a ++ b).size = a.size + b.size := ByteArray.size_append
  have e := cut_append a b 0 (Nat.zero_le _)
  have e2 := cut_shift (a ++ b) (a.size - (cutP a 0).2) 0 (by omega)
  rw [tail_append a b _ (by omega)] at e2
  rw [Nat.add_zero] at e2
  rw [e2] at e
  exact e

theorem left_chunk (a b : ByteArray) : leftP (a ++ b) = leftP (leftP a ++ b) := by
  have h := cut_le a 0
  have h2 := cut_le (leftP a ++ b) 0
  have hs : (a ++ b).size = a.size + b.size := ByteArray.size_append
  have hl := left_size a
  have hs2 : (leftP a ++ b).size = (leftP a).size + b.size := ByteArray.size_append
  have e : (cutP (a ++ b) 0).2 = (cutP (leftP a ++ b) 0).2 := by rw [cut_chunk]
  have hx : (leftP a ++ b).size = (a ++ b).size - (a.size - (cutP a 0).2) := by omega
  have t2 : (a ++ b).extract (a.size - (cutP a 0).2) (a ++ b).size = leftP a ++ b := tail_append a b (a.size - (cutP a 0).2) (by omega)
  have m := ext_mid (a ++ b) (a.size - (cutP a 0).2) ((leftP a ++ b).size - (cutP (leftP a ++ b) 0).2) (leftP a ++ b).size (by omega) (by omega)
  rw [t2] at m
  show (a ++ b).extract ((a ++ b).size - (cutP (a ++ b) 0).2) (a ++ b).size = (leftP a ++ b).extract ((leftP a ++ b).size - (cutP (leftP a ++ b) 0).2) (leftP a ++ b).size
  rw [e, m]
  congr 1 <;> omega

end Go.Proofs.Ytdhobdmhnocbgaa.Zr
