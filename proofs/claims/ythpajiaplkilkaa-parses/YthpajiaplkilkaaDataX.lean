/-
  Walks: wholeData, the reader's method data.
-/
import Derived.Test.YthpajiaplkilkaaDataW
namespace Go.Proofs.Ythpajiaplkilkaa
open Go.RowKit Zr

theorem dataP_1 (b : ByteArray) (k n t : Nat) (h : t = 2 ∨ t = 5 ∨ t = 12) : dataP b k n t = wn b k n 1 0 := by unfold dataP; rw [if_pos h]
theorem dataP_2 (b : ByteArray) (k n : Nat) : dataP b k n 6 = wn b k n 2 20 := by unfold dataP; rw [if_neg (by omega), if_pos rfl]
theorem dataP_3 (b : ByteArray) (k n t : Nat) (h : ¬ (t = 2 ∨ t = 5 ∨ t = 12)) (h6 : t ≠ 6) : dataP b k n t = if flatB t (b.extract k (k + n)) then some (b.extract k (k + n)) else none := by
  unfold dataP; rw [if_neg h, if_neg h6]

set_option maxHeartbeats 1000000 in
theorem wholeData_any (b raw : ByteArray) (k n t : Nat) (w : World) (hb : b.size ≤ 65535) (hraw : Hid (raw = b.extract k (k + n))) (hkn : k + n ≤ b.size) :
    Calls Try.prog 41 #[.string b, .int .i64 k, .string raw, .int .i64 t] w fun e w' =>
      e = .returned (.tuple #[.string ((dataP b k n t).getD ⟨#[]⟩), .bool (dataP b k n t).isSome]) ∧ Below w.heap.size w w' := by
  have hsz : raw.size = n := by rw [unhide hraw, size_extract' _ _ _ (by omega) hkn]; omega
  have hcn : ((raw.size : Nat) : Int) = (n : Int) := by rw [hsz]
  have hle : raw.size ≤ 65535 := by omega
  clear hsz
  by_cases d1 : t = 2 ∨ t = 5 ∨ t = 12
  · have HW := hide (dataP_1 b k n t d1)
    have key : ∀ w, Calls Try.prog 43 #[.string b, .int .i64 k, .int .i64 n, .int .i64 1, .int .i64 0] w fun e w' => e = .returned (.tuple #[.string ((dataP b k n t).getD ⟨#[]⟩), .bool (dataP b k n t).isSome]) ∧ Below w.heap.size w w' := by
      intro w
      have h := wholeNames_any b k n 1 0 w hb (by omega) (by omega) (by omega) (by omega) (by omega) (by omega) (by omega)
      simp only [Int.toNat_natCast] at h
      rw [unhide HW]
      exact h
    have Key := hide key
    clear key
    rcases d1 with rfl | rfl | rfl
    all_goals
      go_enter Try.func41, Try.ntmps41
      go_wp2_with fail
      refine (unhide Key _).mono ?_
      rintro e w1 ⟨rfl, hb1⟩
      go_wp2_with fail
      go_ret2
      exact ⟨rfl, hb1⟩
  have n1 : ((t : Int) == 2) = false := beq_eq_false_iff_ne.2 (by omega)
  have n2 : ((t : Int) == 5) = false := beq_eq_false_iff_ne.2 (by omega)
  have n3 : ((t : Int) == 12) = false := beq_eq_false_iff_ne.2 (by omega)
  by_cases d2 : t = 6
  · subst d2
    have HW := hide (dataP_2 b k n)
    go_enter Try.func41, Try.ntmps41
    go_wp2_with fail
    refine (wholeNames_any b k n 2 20 _ hb (by omega) (by omega) (by omega) (by omega) (by omega) (by omega) (by omega)).mono ?_
    simp only [Int.toNat_natCast]
    rintro e w1 ⟨rfl, hb1⟩
    go_wp2_with fail
    go_ret2
    exact ⟨by rw [unhide HW]; rfl, hb1⟩
  have n4 : ((t : Int) == 6) = false := beq_eq_false_iff_ne.2 (by omega)
  have hW := dataP_3 b k n t d1 d2
  rw [← unhide hraw] at hW
  clear d1 d2 hcn
  cases hf : flatB t raw with
  | true =>
    rw [hf, if_pos rfl] at hW
    have HF := hide hf
    have HW := hide hW
    clear hf hW
    go_enter Try.func41, Try.ntmps41
    go_wp2_with fail
    refine (fitsPlain_any raw t _ hle (by omega)).mono ?_
    rw [Int.toNat_natCast, unhide HF]
    rintro e w1 ⟨rfl, hb1⟩
    go_wp2_with fail
    go_ret2
    exact ⟨by rw [unhide HW]; rfl, hb1⟩
  | false =>
    rw [hf, if_neg (by decide)] at hW
    have HF := hide hf
    have HW := hide hW
    clear hf hW
    go_enter Try.func41, Try.ntmps41
    go_wp2_with fail
    refine (fitsPlain_any raw t _ hle (by omega)).mono ?_
    rw [Int.toNat_natCast, unhide HF]
    rintro e w1 ⟨rfl, hb1⟩
    go_wp2_with fail
    go_ret2
    exact ⟨by rw [unhide HW]; rfl, hb1⟩

end Go.Proofs.Ythpajiaplkilkaa
