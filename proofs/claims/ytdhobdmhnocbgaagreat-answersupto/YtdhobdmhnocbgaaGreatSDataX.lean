/-
  Walks: data by the type (fitsPlain, wholeNames, wholeData, the reader's method data).
-/
/-
  Walks: wholeData, the reader's method data.
-/
import Derived.Test.YtdhobdmhnocbgaaGreatSRowW
namespace Go.Proofs.YtdhobdmhnocbgaaGreat
open Go.RowKit Zr

theorem append_empty' (s : ByteArray) : s ++ (⟨#[]⟩ : ByteArray) = s := by
  apply ByteArray.ext
  simp [ByteArray.data_append]

set_option maxHeartbeats 1000000 in
theorem fitsPlain_any (s : ByteArray) (t : Int) (w : World) (hb : s.size ≤ 65535) (ht : 0 ≤ t) :
    Calls Tryz.prog 178 #[.string s, .int .i64 t] w fun e w' => e = .returned (.bool (flatB t.toNat s)) ∧ Below w.heap.size w w' := by
  obtain ⟨t, rfl⟩ := Int.eq_ofNat_of_zero_le ht
  rw [Int.toNat_natCast]
  by_cases d1 : t = 1
  · subst d1
    have HV : Hid (flatB 1 s = (s.size == 4)) := by show _ = _; rfl
    go_enter Tryz.func178, Tryz.ntmps178
    go_wp2_with fail
    go_ret
    exact ⟨ret_bool (by rw [unhide HV, Bool.eq_iff_iff]; simp; omega), Below.refl _ _⟩
  have n1 : ((t : Int) == 1) = false := beq_eq_false_iff_ne.2 (by omega)
  by_cases d2 : t = 28
  · subst d2
    have HV : Hid (flatB 28 s = (s.size == 16)) := by show _ = _; rfl
    go_enter Tryz.func178, Tryz.ntmps178
    go_wp2_with fail
    go_ret
    exact ⟨ret_bool (by rw [unhide HV, Bool.eq_iff_iff]; simp; omega), Below.refl _ _⟩
  have n2 : ((t : Int) == 28) = false := beq_eq_false_iff_ne.2 (by omega)
  by_cases d3 : t = 33
  · subst d3
    have HV : Hid (flatB 33 s = svcB s) := by show _ = _; rfl
    go_enter Tryz.func178, Tryz.ntmps178
    go_wp2_with fail
    refine (isService_any s _ hb).mono ?_
    rintro e w1 ⟨rfl, hb1⟩
    go_wp2_with fail
    go_ret
    exact ⟨ret_bool (by rw [unhide HV]), hb1⟩
  have n3 : ((t : Int) == 33) = false := beq_eq_false_iff_ne.2 (by omega)
  by_cases d4 : t = 16
  · subst d4
    have HV : Hid (flatB 16 s = (s.size != 0 && rowB s 0 1)) := by show _ = _; rfl
    by_cases hz : s.size = 0
    · have hz' : s.toList.isEmpty = true := by rw [bytes_isEmpty]; simp [hz]
      go_enter Tryz.func178, Tryz.ntmps178
      go_wp2_with fail
      go_ret
      exact ⟨ret_bool (by rw [unhide HV]; simp [hz]), Below.refl _ _⟩
    · have hz' : s.toList.isEmpty = false := by rw [bytes_isEmpty]; simp [hz]
      have Hz := hide hz
      clear hz
      go_enter Tryz.func178, Tryz.ntmps178
      go_wp2_with fail
      refine (isRow_any s 0 1 _ hb (by omega) (by omega) (by omega) (by omega)).mono ?_
      rintro e w1 ⟨rfl, hb1⟩
      go_wp2_with fail
      go_ret
      exact ⟨ret_bool (by rw [unhide HV]; simp [unhide Hz]), hb1⟩
  have n4 : ((t : Int) == 16) = false := beq_eq_false_iff_ne.2 (by omega)
  by_cases d5 : t = 41
  · subst d5
    have HV : Hid (flatB 41 s = rowB s 2 2) := by show _ = _; rfl
    go_enter Tryz.func178, Tryz.ntmps178
    go_wp2_with fail
    refine (isRow_any s 2 2 _ hb (by omega) (by omega) (by omega) (by omega)).mono ?_
    rintro e w1 ⟨rfl, hb1⟩
    go_wp2_with fail
    go_ret
    exact ⟨ret_bool (by rw [unhide HV]), hb1⟩
  have n5 : ((t : Int) == 41) = false := beq_eq_false_iff_ne.2 (by omega)
  have HV : Hid (flatB t s = true) := by show _ = _; unfold flatB; rw [if_neg d1, if_neg d2, if_neg d3, if_neg d4, if_neg d5]
  go_enter Tryz.func178, Tryz.ntmps178
  go_wp2_with fail
  go_ret
  exact ⟨ret_bool (by rw [unhide HV]), Below.refl _ _⟩

set_option maxHeartbeats 1000000 in
theorem wholeNames_any (b : ByteArray) (k n m more : Int) (w : World) (hb : b.size ≤ 65535) (hk : 0 ≤ k) (hn : 0 ≤ n) (hkn : k + n ≤ b.size) (hm : 0 ≤ m) (hm2 : m ≤ 2) (hr : 0 ≤ more) (hr2 : more ≤ 20) :
    Calls Tryz.prog 177 #[.string b, .int .i64 k, .int .i64 n, .int .i64 m, .int .i64 more] w fun e w' =>
      e = .returned (.tuple #[.string ((wn b k.toNat n.toNat m.toNat more.toNat).getD ⟨#[]⟩), .bool (wn b k.toNat n.toNat m.toNat more.toNat).isSome]) ∧ Below w.heap.size w w' := by
  obtain ⟨k, rfl⟩ := Int.eq_ofNat_of_zero_le hk
  obtain ⟨n, rfl⟩ := Int.eq_ofNat_of_zero_le hn
  obtain ⟨m, rfl⟩ := Int.eq_ofNat_of_zero_le hm
  obtain ⟨more, rfl⟩ := Int.eq_ofNat_of_zero_le hr
  simp only [Int.toNat_natCast]
  generalize hR : w.heap.size = R
  go_enter Tryz.func177, Tryz.ntmps177
  go_wp2_with fail
  have h0 : (w.alloc (.cells #[.string b, .int .i64 k, .int .i64 0] 114)).heap[R]? = some (rdr b k 0) := by rw [← hR]; exact heap_alloc_new _ _
  have h0' : Below R w (w.alloc (.cells #[.string b, .int .i64 k, .int .i64 0] 114)) := (Below.refl _ _).alloc (Nat.le_of_eq hR.symm) _
  generalize w.alloc (.cells #[.string b, .int .i64 k, .int .i64 0] 114) = w0 at *
  have H0 := hide h0
  clear h0
  go_loopw [13, 14] (fun v i w' => ∃ (s : ByteArray) (j : Nat) (p : Nat) (f : Int), v = .string s ∧ i = .int .i64 j ∧ j ≤ m ∧ Hid (w'.heap[R]? = some (rdr b p f)) ∧ Below R w w' ∧ s.size ≤ 255 * j ∧ p ≤ b.size ∧ ((Hid (f = 0) ∧ Hid (namesTo b k j = .ok (s, p))) ∨ (Hid (f ≠ 0) ∧ Hid (∀ i, j ≤ i → ∃ x, namesTo b k i = .error x)))) (fun _ i _ => m - (intOf i).toNat)
  case atStart => exact ⟨⟨#[]⟩, 0, k, 0, rfl, rfl, Nat.zero_le _, H0, h0', Nat.zero_le _, by omega, .inl ⟨rfl, rfl⟩⟩
  case round =>
    obtain ⟨s, j, p, f, rfl, rfl, hj, hp, hbw, hs, hpb, hcase⟩ := hrel
    have hRl := blk_lt (unhide hp)
    by_cases c : j < m
    · rcases hcase with ⟨hf, hN⟩ | ⟨hf, hN⟩
      · have hf0 := unhide hf
        subst hf0
        cases hx : nameAt b p with
        | ok z =>
          obtain ⟨x, t⟩ := z
          obtain ⟨g1, g2, g3⟩ := nameAt_bounds b p x t hx
          have hnx : namesTo b k (j + 1) = .ok (s ++ x, p + t) := by rw [namesTo, unhide hN]; simp only; rw [hx]
          have Hx := hide hx
          have HNX := hide hnx
          clear hx hnx hN hf
          go_wp2_with fail
          refine (name_ok R b p _ (big hb) (unhide hp) (by omega) (by omega) x t (by rw [Int.toNat_natCast]; exact Hx)).mono ?_
          rintro e w1 ⟨rfl, hR1, hg1⟩
          have HR1 := hide hR1
          clear hR1
          go_wp2_with fail
          go_roundw
          case rel => exact ⟨s ++ x, j + 1, p + t, 0, rfl, by go_num, by omega, HR1, below_grown hbw hg1 (by omega) (Nat.le_refl _), by rw [ByteArray.size_append]; omega, by omega, .inl ⟨rfl, HNX⟩⟩
          case measure => simp [intOf]; omega
        | error x =>
          have hnx : namesTo b k (j + 1) = .error x := by rw [namesTo, unhide hN]; simp only; rw [hx]
          have HNX := hide (namesTo_err b k (j + 1) x hnx)
          have Hx := hide hx
          clear hx hnx hN hf
          go_wp2_with fail
          refine (name_err R b p _ (big hb) (unhide hp) (by omega) (by omega) x (by rw [Int.toNat_natCast]; exact Hx)).mono ?_
          rintro e w1 ⟨hx0, rfl, hR1, hg1⟩
          have HR1 := hide hR1
          have HX0 := hide hx0
          clear hR1 hx0
          go_wp2_with fail
          go_roundw
          case rel => exact ⟨s, j + 1, p, x, by rw [append_empty'], by go_num, by omega, HR1, below_grown hbw hg1 (by omega) (Nat.le_refl _), by omega, by omega, .inr ⟨HX0, HNX⟩⟩
          case measure => simp [intOf]; omega
      · go_wp2_with fail
        refine (name_fail R b p f _ (unhide hp) (unhide hf)).mono ?_
        rintro e w1 ⟨rfl, rfl⟩
        go_wp2_with fail
        go_roundw
        case rel => exact ⟨s, j + 1, p, f, by rw [append_empty'], by go_num, by omega, hp, hbw, by omega, by omega, .inr ⟨hf, fun i hi => unhide hN i (by omega)⟩⟩
        case measure => simp [intOf]; omega
    · have hjm : j = m := by omega
      subst hjm
      rcases hcase with ⟨hf, hN⟩ | ⟨hf, hN⟩
      · have hf0 := unhide hf
        subst hf0
        by_cases cs : p + more ≤ b.size
        · by_cases ce : p + more = k + n
          · have HW := hide (wn_yes b k n j more s p (unhide hN) ce)
            have hz : (b.extract p (p + more)).size = more := by rw [size_extract' _ _ _ (by omega) (by omega)]; omega
            have hne : (((p : Int) + more) != (k : Int) + n) = false := by simp only [bne_eq_false_iff_eq]; omega
            have HZ := hide hz
            have hz' : (b.extract p (p + more)).size ≤ 20 := by omega
            clear hz ce
            go_wp2_with fail
            refine (bytes_ok R b p more _ hb (unhide hp) (by omega) (by omega) (by omega)).mono ?_
            rw [Int.toNat_natCast, Int.toNat_natCast]
            rintro e w1 ⟨rfl, hR1, hg1⟩
            obtain ⟨c0, c1, c2, z0, z1, z2⟩ := rdr_cells hR1
            clear hR1
            go_wp2_with fail
            go_ret2
            exact ⟨by rw [unhide HW]; rfl, below_grown hbw hg1 (by omega) (Nat.le_refl _)⟩
          · have HW := hide (wn_no b k n j more s p (unhide hN) ce)
            have hne : (((p : Int) + more) != (k : Int) + n) = true := by rw [bne_iff_ne]; omega
            clear ce
            go_wp2_with fail
            refine (bytes_ok R b p more _ hb (unhide hp) (by omega) (by omega) (by omega)).mono ?_
            rw [Int.toNat_natCast, Int.toNat_natCast]
            rintro e w1 ⟨rfl, hR1, hg1⟩
            obtain ⟨c0, c1, c2, z0, z1, z2⟩ := rdr_cells hR1
            clear hR1
            go_wp2_with fail
            go_ret2
            exact ⟨by rw [unhide HW]; rfl, below_grown hbw hg1 (by omega) (Nat.le_refl _)⟩
        · have HW := hide (wn_no b k n j more s p (unhide hN) (by omega))
          go_wp2_with fail
          refine (bytes_short R b p more _ hb (unhide hp) (by omega) (by omega) (by omega) (by omega)).mono ?_
          rintro e w1 ⟨rfl, hR1, hg1⟩
          obtain ⟨c0, c1, c2, z0, z1, z2⟩ := rdr_cells hR1
          clear hR1
          go_wp2_with fail
          go_ret2
          exact ⟨by rw [unhide HW]; rfl, below_grown hbw hg1 (by omega) (Nat.le_refl _)⟩
      · obtain ⟨x, hx⟩ := unhide hN j (Nat.le_refl _)
        have HW := hide (wn_err b k n j more x hx)
        have hf0 : (f != 0) = true := by rw [bne_iff_ne]; exact unhide hf
        clear hx
        go_wp2_with fail
        refine (bytes_fail R b p f more _ (unhide hp) (unhide hf)).mono ?_
        rintro e w1 ⟨rfl, rfl⟩
        obtain ⟨c0, c1, c2, z0, z1, z2⟩ := rdr_cells (unhide hp)
        go_wp2_with fail
        go_ret2
        exact ⟨by rw [unhide HW]; rfl, hbw⟩

end Go.Proofs.YtdhobdmhnocbgaaGreat

namespace Go.Proofs.YtdhobdmhnocbgaaGreat
open Go.RowKit Zr

theorem dataP_1 (b : ByteArray) (k n t : Nat) (h : t = 2 ∨ t = 5 ∨ t = 12) : dataP b k n t = wn b k n 1 0 := by unfold dataP; rw [if_pos h]
theorem dataP_2 (b : ByteArray) (k n : Nat) : dataP b k n 6 = wn b k n 2 20 := by unfold dataP; rw [if_neg (by omega), if_pos rfl]
theorem dataP_3 (b : ByteArray) (k n t : Nat) (h : ¬ (t = 2 ∨ t = 5 ∨ t = 12)) (h6 : t ≠ 6) : dataP b k n t = if flatB t (b.extract k (k + n)) then some (b.extract k (k + n)) else none := by
  unfold dataP; rw [if_neg h, if_neg h6]

set_option maxHeartbeats 400000 in
theorem namesIn_any (t : Int) (w : World) :
    Calls Tryz.prog 175 #[.int .i64 t] w fun e w' => e = .returned (.tuple #[.int .i64 (if t = 2 ∨ t = 5 ∨ t = 12 then 1 else if t = 6 then 2 else 0), .int .i64 (if t = 2 ∨ t = 5 ∨ t = 12 then 0 else if t = 6 then 20 else 0)]) ∧ w' = w := by
  by_cases d1 : t = 2 ∨ t = 5 ∨ t = 12
  · rw [if_pos d1, if_pos d1]
    rcases d1 with rfl | rfl | rfl
    all_goals
      go_enter Tryz.func175, Tryz.ntmps175
      go_wp2_with fail
      go_ret2
      exact ⟨rfl, rfl⟩
  · rw [if_neg d1, if_neg d1]
    have n1 : (t == 2) = false := beq_eq_false_iff_ne.2 (by omega)
    have n2 : (t == 5) = false := beq_eq_false_iff_ne.2 (by omega)
    have n3 : (t == 12) = false := beq_eq_false_iff_ne.2 (by omega)
    by_cases d2 : t = 6
    · subst d2
      rw [if_pos rfl, if_pos rfl]
      clear d1 n1 n2 n3
      go_enter Tryz.func175, Tryz.ntmps175
      go_wp2_with fail
      go_ret2
      exact ⟨rfl, rfl⟩
    · rw [if_neg d2, if_neg d2]
      have n4 : (t == 6) = false := beq_eq_false_iff_ne.2 d2
      clear d1 d2
      go_enter Tryz.func175, Tryz.ntmps175
      go_wp2_with fail
      go_ret2
      exact ⟨rfl, rfl⟩

theorem namesIn_one (t : Int) (w : World) (h : t = 2 ∨ t = 5 ∨ t = 12) : Calls Tryz.prog 175 #[.int .i64 t] w fun e w' => e = .returned (.tuple #[.int .i64 1, .int .i64 0]) ∧ w' = w := by
  have := namesIn_any t w
  rw [if_pos h, if_pos h] at this
  exact this
theorem namesIn_two (w : World) : Calls Tryz.prog 175 #[.int .i64 6] w fun e w' => e = .returned (.tuple #[.int .i64 2, .int .i64 20]) ∧ w' = w := namesIn_any 6 w
theorem namesIn_none (t : Int) (w : World) (h : ¬ (t = 2 ∨ t = 5 ∨ t = 12)) (h6 : t ≠ 6) : Calls Tryz.prog 175 #[.int .i64 t] w fun e w' => e = .returned (.tuple #[.int .i64 0, .int .i64 0]) ∧ w' = w := by
  have := namesIn_any t w
  rw [if_neg h, if_neg h, if_neg h6, if_neg h6] at this
  exact this

set_option maxHeartbeats 1000000 in
theorem wholeData_any (b raw : ByteArray) (k n t : Nat) (w : World) (hb : b.size ≤ 65535) (hraw : Hid (raw = b.extract k (k + n))) (hkn : k + n ≤ b.size) :
    Calls Tryz.prog 172 #[.string b, .int .i64 k, .string raw, .int .i64 t] w fun e w' =>
      e = .returned (.tuple #[.string ((dataP b k n t).getD ⟨#[]⟩), .bool (dataP b k n t).isSome]) ∧ Below w.heap.size w w' := by
  have hsz : raw.size = n := by rw [unhide hraw, size_extract' _ _ _ (by omega) hkn]; omega
  have hcn : ((raw.size : Nat) : Int) = (n : Int) := by rw [hsz]
  have hle : raw.size ≤ 65535 := by omega
  clear hsz
  by_cases d1 : t = 2 ∨ t = 5 ∨ t = 12
  · have HW := hide (dataP_1 b k n t d1)
    have key : ∀ w, Calls Tryz.prog 177 #[.string b, .int .i64 k, .int .i64 n, .int .i64 1, .int .i64 0] w fun e w' => e = .returned (.tuple #[.string ((dataP b k n t).getD ⟨#[]⟩), .bool (dataP b k n t).isSome]) ∧ Below w.heap.size w w' := by
      intro w
      have h := wholeNames_any b k n 1 0 w hb (by omega) (by omega) (by omega) (by omega) (by omega) (by omega) (by omega)
      simp only [Int.toNat_natCast] at h
      rw [unhide HW]
      exact h
    have Key := hide key
    have d1' : (t : Int) = 2 ∨ (t : Int) = 5 ∨ (t : Int) = 12 := by omega
    have D1 := hide d1'
    clear key d1 d1'
    go_enter Tryz.func172, Tryz.ntmps172
    go_wp2_with fail
    refine (namesIn_one _ _ (unhide D1)).mono ?_
    rintro e w1 ⟨rfl, rfl⟩
    go_wp2_with fail
    refine (unhide Key _).mono ?_
    rintro e w1 ⟨rfl, hb1⟩
    go_wp2_with fail
    go_ret2
    exact ⟨rfl, hb1⟩
  by_cases d2 : t = 6
  · subst d2
    have HW := hide (dataP_2 b k n)
    go_enter Tryz.func172, Tryz.ntmps172
    go_wp2_with fail
    refine (namesIn_two _).mono ?_
    rintro e w1 ⟨rfl, rfl⟩
    go_wp2_with fail
    refine (wholeNames_any b k n 2 20 _ hb (by omega) (by omega) (by omega) (by omega) (by omega) (by omega) (by omega)).mono ?_
    simp only [Int.toNat_natCast]
    rintro e w1 ⟨rfl, hb1⟩
    go_wp2_with fail
    go_ret2
    exact ⟨by rw [unhide HW]; rfl, hb1⟩
  have hW := dataP_3 b k n t d1 d2
  rw [← unhide hraw] at hW
  have D1 : Hid (¬ ((t : Int) = 2 ∨ (t : Int) = 5 ∨ (t : Int) = 12)) := by show ¬ _; omega
  have D2 : Hid ((t : Int) ≠ 6) := by show ¬ _; omega
  clear d1 d2 hcn
  cases hf : flatB t raw with
  | true =>
    rw [hf, if_pos rfl] at hW
    have HF := hide hf
    have HW := hide hW
    clear hf hW
    go_enter Tryz.func172, Tryz.ntmps172
    go_wp2_with fail
    refine (namesIn_none _ _ (unhide D1) (unhide D2)).mono ?_
    rintro e w1 ⟨rfl, rfl⟩
    go_wp2_with fail
    refine (fitsPlain_any raw t _ hle (by omega)).mono ?_
    rw [Int.toNat_natCast, unhide HF]
    rintro e w1 ⟨rfl, hb1⟩
    go_wp2_with fail
    go_ret2
    exact ⟨by rw [unhide HW]; rfl, hb1⟩
  | false =>
    rw [hf, if_neg (by decide)] at hW
    have HF := hide hf
    have HW := hide hW
    clear hf hW
    go_enter Tryz.func172, Tryz.ntmps172
    go_wp2_with fail
    refine (namesIn_none _ _ (unhide D1) (unhide D2)).mono ?_
    rintro e w1 ⟨rfl, rfl⟩
    go_wp2_with fail
    refine (fitsPlain_any raw t _ hle (by omega)).mono ?_
    rw [Int.toNat_natCast, unhide HF]
    rintro e w1 ⟨rfl, hb1⟩
    go_wp2_with fail
    go_ret2
    exact ⟨by rw [unhide HW]; rfl, hb1⟩

end Go.Proofs.YtdhobdmhnocbgaaGreat
