/-
  Walks: wholeData, the reader's method data.
-/
import Derived.Test.YtdhobdmhnocbgabGreatSDataW
namespace Go.Proofs.YtdhobdmhnocbgabGreat
open Go.RowKit Zr

theorem dataP_1 (b : ByteArray) (k n t : Nat) (h : t = 2 ∨ t = 5 ∨ t = 12) : dataP b k n t = wn b k n 1 0 := by unfold dataP; rw [if_pos h]
theorem dataP_2 (b : ByteArray) (k n : Nat) : dataP b k n 6 = wn b k n 2 20 := by unfold dataP; rw [if_neg (by omega), if_pos rfl]
theorem dataP_3 (b : ByteArray) (k n t : Nat) (h : ¬ (t = 2 ∨ t = 5 ∨ t = 12)) (h6 : t ≠ 6) : dataP b k n t = if flatB t (b.extract k (k + n)) then some (b.extract k (k + n)) else none := by
  unfold dataP; rw [if_neg h, if_neg h6]

set_option maxHeartbeats 400000 in
theorem namesIn_any (t : Int) (w : World) :
    Calls Tryz.prog 119 #[.int .i64 t] w fun e w' => e = .returned (.tuple #[.int .i64 (if t = 2 ∨ t = 5 ∨ t = 12 then 1 else if t = 6 then 2 else 0), .int .i64 (if t = 2 ∨ t = 5 ∨ t = 12 then 0 else if t = 6 then 20 else 0)]) ∧ w' = w := by
  by_cases d1 : t = 2 ∨ t = 5 ∨ t = 12
  · rw [if_pos d1, if_pos d1]
    rcases d1 with rfl | rfl | rfl
    all_goals
      go_enter Tryz.func119, Tryz.ntmps119
      go_wp2_with fail
      go_ret2
      exact ⟨rfl, rfl⟩
  · rw [if_neg d1, if_neg d1]
    have n1 : (t == 2) = false := beq_eq_false_iff_ne.2 (by omega)
    have n2 : (t == 5) = false := beq_eq_false_iff_ne.2 (by omega)
    have n3 : (t == 12) = false := beq_eq_false_iff_ne.2 (by omega)
    by_cases d2 : t = 6
    · subst d2
      rw [if_pos rfl, if_pos rfl]
      clear d1 n1 n2 n3
      go_enter Tryz.func119, Tryz.ntmps119
      go_wp2_with fail
      go_ret2
      exact ⟨rfl, rfl⟩
    · rw [if_neg d2, if_neg d2]
      have n4 : (t == 6) = false := beq_eq_false_iff_ne.2 d2
      clear d1 d2
      go_enter Tryz.func119, Tryz.ntmps119
      go_wp2_with fail
      go_ret2
      exact ⟨rfl, rfl⟩

theorem namesIn_one (t : Int) (w : World) (h : t = 2 ∨ t = 5 ∨ t = 12) : Calls Tryz.prog 119 #[.int .i64 t] w fun e w' => e = .returned (.tuple #[.int .i64 1, .int .i64 0]) ∧ w' = w := by
  have := namesIn_any t w
  rw [if_pos h, if_pos h] at this
  exact this
theorem namesIn_two (w : World) : Calls Tryz.prog 119 #[.int .i64 6] w fun e w' => e = .returned (.tuple #[.int .i64 2, .int .i64 20]) ∧ w' = w := namesIn_any 6 w
theorem namesIn_none (t : Int) (w : World) (h : ¬ (t = 2 ∨ t = 5 ∨ t = 12)) (h6 : t ≠ 6) : Calls Tryz.prog 119 #[.int .i64 t] w fun e w' => e = .returned (.tuple #[.int .i64 0, .int .i64 0]) ∧ w' = w := by
  have := namesIn_any t w
  rw [if_neg h, if_neg h, if_neg h6, if_neg h6] at this
  exact this

set_option maxHeartbeats 1000000 in
theorem wholeData_any (b raw : ByteArray) (k n t : Nat) (w : World) (hb : b.size ≤ 65535) (hraw : Hid (raw = b.extract k (k + n))) (hkn : k + n ≤ b.size) :
    Calls Tryz.prog 116 #[.string b, .int .i64 k, .string raw, .int .i64 t] w fun e w' =>
      e = .returned (.tuple #[.string ((dataP b k n t).getD ⟨#[]⟩), .bool (dataP b k n t).isSome]) ∧ Below w.heap.size w w' := by
  have hsz : raw.size = n := by rw [unhide hraw, size_extract' _ _ _ (by omega) hkn]; omega
  have hcn : ((raw.size : Nat) : Int) = (n : Int) := by rw [hsz]
  have hle : raw.size ≤ 65535 := by omega
  clear hsz
  by_cases d1 : t = 2 ∨ t = 5 ∨ t = 12
  · have HW := hide (dataP_1 b k n t d1)
    have key : ∀ w, Calls Tryz.prog 128 #[.string b, .int .i64 k, .int .i64 n, .int .i64 1, .int .i64 0] w fun e w' => e = .returned (.tuple #[.string ((dataP b k n t).getD ⟨#[]⟩), .bool (dataP b k n t).isSome]) ∧ Below w.heap.size w w' := by
      intro w
      have h := wholeNames_any b k n 1 0 w hb (by omega) (by omega) (by omega) (by omega) (by omega) (by omega) (by omega)
      simp only [Int.toNat_natCast] at h
      rw [unhide HW]
      exact h
    have Key := hide key
    have d1' : (t : Int) = 2 ∨ (t : Int) = 5 ∨ (t : Int) = 12 := by omega
    have D1 := hide d1'
    clear key d1 d1'
    go_enter Tryz.func116, Tryz.ntmps116
    go_wp2_with fail
    refine (namesIn_one _ _ (unhide D1)).mono ?_
    rintro e w1 ⟨rfl, rfl⟩
    go_wp2_with fail
    refine (unhide Key _).mono ?_
    rintro e w1 ⟨rfl, hb1⟩
    go_wp2_with fail
    go_ret2
    exact ⟨rfl, hb1⟩
  by_cases d2 : t = 6
  · subst d2
    have HW := hide (dataP_2 b k n)
    go_enter Tryz.func116, Tryz.ntmps116
    go_wp2_with fail
    refine (namesIn_two _).mono ?_
    rintro e w1 ⟨rfl, rfl⟩
    go_wp2_with fail
    refine (wholeNames_any b k n 2 20 _ hb (by omega) (by omega) (by omega) (by omega) (by omega) (by omega) (by omega)).mono ?_
    simp only [Int.toNat_natCast]
    rintro e w1 ⟨rfl, hb1⟩
    go_wp2_with fail
    go_ret2
    exact ⟨by rw [unhide HW]; rfl, hb1⟩
  have hW := dataP_3 b k n t d1 d2
  rw [← unhide hraw] at hW
  have D1 : Hid (¬ ((t : Int) = 2 ∨ (t : Int) = 5 ∨ (t : Int) = 12)) := by show ¬ _; omega
  have D2 : Hid ((t : Int) ≠ 6) := by show ¬ _; omega
  clear d1 d2 hcn
  cases hf : flatB t raw with
  | true =>
    rw [hf, if_pos rfl] at hW
    have HF := hide hf
    have HW := hide hW
    clear hf hW
    go_enter Tryz.func116, Tryz.ntmps116
    go_wp2_with fail
    refine (namesIn_none _ _ (unhide D1) (unhide D2)).mono ?_
    rintro e w1 ⟨rfl, rfl⟩
    go_wp2_with fail
    refine (fitsPlain_any raw t _ hle (by omega)).mono ?_
    rw [Int.toNat_natCast, unhide HF]
    rintro e w1 ⟨rfl, hb1⟩
    go_wp2_with fail
    go_ret2
    exact ⟨by rw [unhide HW]; rfl, hb1⟩
  | false =>
    rw [hf, if_neg (by decide)] at hW
    have HF := hide hf
    have HW := hide hW
    clear hf hW
    go_enter Tryz.func116, Tryz.ntmps116
    go_wp2_with fail
    refine (namesIn_none _ _ (unhide D1) (unhide D2)).mono ?_
    rintro e w1 ⟨rfl, rfl⟩
    go_wp2_with fail
    refine (fitsPlain_any raw t _ hle (by omega)).mono ?_
    rw [Int.toNat_natCast, unhide HF]
    rintro e w1 ⟨rfl, hb1⟩
    go_wp2_with fail
    go_ret2
    exact ⟨by rw [unhide HW]; rfl, hb1⟩

end Go.Proofs.YtdhobdmhnocbgabGreat
