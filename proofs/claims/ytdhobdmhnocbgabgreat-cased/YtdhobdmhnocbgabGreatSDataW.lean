/-
  Walks: data by the type (fitsPlain, wholeNames, wholeData, the reader's method data).
-/
import Derived.Test.YtdhobdmhnocbgabGreatSRowW
namespace Go.Proofs.YtdhobdmhnocbgabGreat
open Go.RowKit Zr

theorem append_empty' (s : ByteArray) : s ++ (⟨#[]⟩ : ByteArray) = s := by
  apply ByteArray.ext
  simp [ByteArray.data_append]

set_option maxHeartbeats 1000000 in
theorem fitsPlain_any (s : ByteArray) (t : Int) (w : World) (hb : s.size ≤ 65535) (ht : 0 ≤ t) :
    Calls Tryz.prog 129 #[.string s, .int .i64 t] w fun e w' => e = .returned (.bool (flatB t.toNat s)) ∧ Below w.heap.size w w' := by
  obtain ⟨t, rfl⟩ := Int.eq_ofNat_of_zero_le ht
  rw [Int.toNat_natCast]
  by_cases d1 : t = 1
  · subst d1
    have HV : Hid (flatB 1 s = (s.size == 4)) := by show _ = _; rfl
    go_enter Tryz.func129, Tryz.ntmps129
    go_wp2_with fail
    go_ret
    exact ⟨ret_bool (by rw [unhide HV, Bool.eq_iff_iff]; simp; omega), Below.refl _ _⟩
  have n1 : ((t : Int) == 1) = false := beq_eq_false_iff_ne.2 (by omega)
  by_cases d2 : t = 28
  · subst d2
    have HV : Hid (flatB 28 s = (s.size == 16)) := by show _ = _; rfl
    go_enter Tryz.func129, Tryz.ntmps129
    go_wp2_with fail
    go_ret
    exact ⟨ret_bool (by rw [unhide HV, Bool.eq_iff_iff]; simp; omega), Below.refl _ _⟩
  have n2 : ((t : Int) == 28) = false := beq_eq_false_iff_ne.2 (by omega)
  by_cases d3 : t = 33
  · subst d3
    have HV : Hid (flatB 33 s = svcB s) := by show _ = _; rfl
    go_enter Tryz.func129, Tryz.ntmps129
    go_wp2_with fail
    refine (isService_any s _ hb).mono ?_
    rintro e w1 ⟨rfl, hb1⟩
    go_wp2_with fail
    go_ret
    exact ⟨ret_bool (by rw [unhide HV]), hb1⟩
  have n3 : ((t : Int) == 33) = false := beq_eq_false_iff_ne.2 (by omega)
  by_cases d4 : t = 16
  · subst d4
    have HV : Hid (flatB 16 s = (s.size != 0 && rowB s 0 1)) := by show _ = _; rfl
    by_cases hz : s.size = 0
    · have hz' : s.toList.isEmpty = true := by rw [bytes_isEmpty]; simp [hz]
      go_enter Tryz.func129, Tryz.ntmps129
      go_wp2_with fail
      go_ret
      exact ⟨ret_bool (by rw [unhide HV]; simp [hz]), Below.refl _ _⟩
    · have hz' : s.toList.isEmpty = false := by rw [bytes_isEmpty]; simp [hz]
      have Hz := hide hz
      clear hz
      go_enter Tryz.func129, Tryz.ntmps129
      go_wp2_with fail
      refine (isRow_any s 0 1 _ hb (by omega) (by omega) (by omega) (by omega)).mono ?_
      rintro e w1 ⟨rfl, hb1⟩
      go_wp2_with fail
      go_ret
      exact ⟨ret_bool (by rw [unhide HV]; simp [unhide Hz]), hb1⟩
  have n4 : ((t : Int) == 16) = false := beq_eq_false_iff_ne.2 (by omega)
  by_cases d5 : t = 41
  · subst d5
    have HV : Hid (flatB 41 s = rowB s 2 2) := by show _ = _; rfl
    go_enter Tryz.func129, Tryz.ntmps129
    go_wp2_with fail
    refine (isRow_any s 2 2 _ hb (by omega) (by omega) (by omega) (by omega)).mono ?_
    rintro e w1 ⟨rfl, hb1⟩
    go_wp2_with fail
    go_ret
    exact ⟨ret_bool (by rw [unhide HV]), hb1⟩
  have n5 : ((t : Int) == 41) = false := beq_eq_false_iff_ne.2 (by omega)
  have HV : Hid (flatB t s = true) := by show _ = _; unfold flatB; rw [if_neg d1, if_neg d2, if_neg d3, if_neg d4, if_neg d5]
  go_enter Tryz.func129, Tryz.ntmps129
  go_wp2_with fail
  go_ret
  exact ⟨ret_bool (by rw [unhide HV]), Below.refl _ _⟩

set_option maxHeartbeats 1000000 in
theorem wholeNames_any (b : ByteArray) (k n m more : Int) (w : World) (hb : b.size ≤ 65535) (hk : 0 ≤ k) (hn : 0 ≤ n) (hkn : k + n ≤ b.size) (hm : 0 ≤ m) (hm2 : m ≤ 2) (hr : 0 ≤ more) (hr2 : more ≤ 20) :
    Calls Tryz.prog 128 #[.string b, .int .i64 k, .int .i64 n, .int .i64 m, .int .i64 more] w fun e w' =>
      e = .returned (.tuple #[.string ((wn b k.toNat n.toNat m.toNat more.toNat).getD ⟨#[]⟩), .bool (wn b k.toNat n.toNat m.toNat more.toNat).isSome]) ∧ Below w.heap.size w w' := by
  obtain ⟨k, rfl⟩ := Int.eq_ofNat_of_zero_le hk
  obtain ⟨n, rfl⟩ := Int.eq_ofNat_of_zero_le hn
  obtain ⟨m, rfl⟩ := Int.eq_ofNat_of_zero_le hm
  obtain ⟨more, rfl⟩ := Int.eq_ofNat_of_zero_le hr
  simp only [Int.toNat_natCast]
  generalize hR : w.heap.size = R
  go_enter Tryz.func128, Tryz.ntmps128
  go_wp2_with fail
  have h0 : (w.alloc (.cells #[.string b, .int .i64 k, .int .i64 0] 88)).heap[R]? = some (rdr b k 0) := by rw [← hR]; exact heap_alloc_new _ _
  have h0' : Below R w (w.alloc (.cells #[.string b, .int .i64 k, .int .i64 0] 88)) := (Below.refl _ _).alloc (Nat.le_of_eq hR.symm) _
  generalize w.alloc (.cells #[.string b, .int .i64 k, .int .i64 0] 88) = w0 at *
  have H0 := hide h0
  clear h0
  go_loopw [13, 14] (fun v i w' => ∃ (s : ByteArray) (j : Nat) (p : Nat) (f : Int), v = .string s ∧ i = .int .i64 j ∧ j ≤ m ∧ Hid (w'.heap[R]? = some (rdr b p f)) ∧ Below R w w' ∧ s.size ≤ 255 * j ∧ p ≤ b.size ∧ ((Hid (f = 0) ∧ Hid (namesTo b k j = .ok (s, p))) ∨ (Hid (f ≠ 0) ∧ Hid (∀ i, j ≤ i → ∃ x, namesTo b k i = .error x)))) (fun _ i _ => m - (intOf i).toNat)
  case atStart => exact ⟨⟨#[]⟩, 0, k, 0, rfl, rfl, Nat.zero_le _, H0, h0', Nat.zero_le _, by omega, .inl ⟨rfl, rfl⟩⟩
  case round =>
    obtain ⟨s, j, p, f, rfl, rfl, hj, hp, hbw, hs, hpb, hcase⟩ := hrel
    have hRl := blk_lt (unhide hp)
    by_cases c : j < m
    · rcases hcase with ⟨hf, hN⟩ | ⟨hf, hN⟩
      · have hf0 := unhide hf
        subst hf0
        cases hx : nameAt b p with
        | ok z =>
          obtain ⟨x, t⟩ := z
          obtain ⟨g1, g2, g3⟩ := nameAt_bounds b p x t hx
          have hnx : namesTo b k (j + 1) = .ok (s ++ x, p + t) := by rw [namesTo, unhide hN]; simp only; rw [hx]
          have Hx := hide hx
          have HNX := hide hnx
          clear hx hnx hN hf
          go_wp2_with fail
          refine (name_ok R b p _ (big hb) (unhide hp) (by omega) (by omega) x t (by rw [Int.toNat_natCast]; exact Hx)).mono ?_
          rintro e w1 ⟨rfl, hR1, hg1⟩
          have HR1 := hide hR1
          clear hR1
          go_wp2_with fail
          go_roundw
          case rel => exact ⟨s ++ x, j + 1, p + t, 0, rfl, by go_num, by omega, HR1, below_grown hbw hg1 (by omega) (Nat.le_refl _), by rw [ByteArray.size_append]; omega, by omega, .inl ⟨rfl, HNX⟩⟩
          case measure => simp [intOf]; omega
        | error x =>
          have hnx : namesTo b k (j + 1) = .error x := by rw [namesTo, unhide hN]; simp only; rw [hx]
          have HNX := hide (namesTo_err b k (j + 1) x hnx)
          have Hx := hide hx
          clear hx hnx hN hf
          go_wp2_with fail
          refine (name_err R b p _ (big hb) (unhide hp) (by omega) (by omega) x (by rw [Int.toNat_natCast]; exact Hx)).mono ?_
          rintro e w1 ⟨hx0, rfl, hR1, hg1⟩
          have HR1 := hide hR1
          have HX0 := hide hx0
          clear hR1 hx0
          go_wp2_with fail
          go_roundw
          case rel => exact ⟨s, j + 1, p, x, by rw [append_empty'], by go_num, by omega, HR1, below_grown hbw hg1 (by omega) (Nat.le_refl _), by omega, by omega, .inr ⟨HX0, HNX⟩⟩
          case measure => simp [intOf]; omega
      · go_wp2_with fail
        refine (name_fail R b p f _ (unhide hp) (unhide hf)).mono ?_
        rintro e w1 ⟨rfl, rfl⟩
        go_wp2_with fail
        go_roundw
        case rel => exact ⟨s, j + 1, p, f, by rw [append_empty'], by go_num, by omega, hp, hbw, by omega, by omega, .inr ⟨hf, fun i hi => unhide hN i (by omega)⟩⟩
        case measure => simp [intOf]; omega
    · have hjm : j = m := by omega
      subst hjm
      rcases hcase with ⟨hf, hN⟩ | ⟨hf, hN⟩
      · have hf0 := unhide hf
        subst hf0
        by_cases cs : p + more ≤ b.size
        · by_cases ce : p + more = k + n
          · have HW := hide (wn_yes b k n j more s p (unhide hN) ce)
            have hz : (b.extract p (p + more)).size = more := by rw [size_extract' _ _ _ (by omega) (by omega)]; omega
            have hne : (((p : Int) + more) != (k : Int) + n) = false := by simp only [bne_eq_false_iff_eq]; omega
            have HZ := hide hz
            have hz' : (b.extract p (p + more)).size ≤ 20 := by omega
            clear hz ce
            go_wp2_with fail
            refine (bytes_ok R b p more _ hb (unhide hp) (by omega) (by omega) (by omega)).mono ?_
            rw [Int.toNat_natCast, Int.toNat_natCast]
            rintro e w1 ⟨rfl, hR1, hg1⟩
            obtain ⟨c0, c1, c2, z0, z1, z2⟩ := rdr_cells hR1
            clear hR1
            go_wp2_with fail
            go_ret2
            exact ⟨by rw [unhide HW]; rfl, below_grown hbw hg1 (by omega) (Nat.le_refl _)⟩
          · have HW := hide (wn_no b k n j more s p (unhide hN) ce)
            have hne : (((p : Int) + more) != (k : Int) + n) = true := by rw [bne_iff_ne]; omega
            clear ce
            go_wp2_with fail
            refine (bytes_ok R b p more _ hb (unhide hp) (by omega) (by omega) (by omega)).mono ?_
            rw [Int.toNat_natCast, Int.toNat_natCast]
            rintro e w1 ⟨rfl, hR1, hg1⟩
            obtain ⟨c0, c1, c2, z0, z1, z2⟩ := rdr_cells hR1
            clear hR1
            go_wp2_with fail
            go_ret2
            exact ⟨by rw [unhide HW]; rfl, below_grown hbw hg1 (by omega) (Nat.le_refl _)⟩
        · have HW := hide (wn_no b k n j more s p (unhide hN) (by omega))
          go_wp2_with fail
          refine (bytes_short R b p more _ hb (unhide hp) (by omega) (by omega) (by omega) (by omega)).mono ?_
          rintro e w1 ⟨rfl, hR1, hg1⟩
          obtain ⟨c0, c1, c2, z0, z1, z2⟩ := rdr_cells hR1
          clear hR1
          go_wp2_with fail
          go_ret2
          exact ⟨by rw [unhide HW]; rfl, below_grown hbw hg1 (by omega) (Nat.le_refl _)⟩
      · obtain ⟨x, hx⟩ := unhide hN j (Nat.le_refl _)
        have HW := hide (wn_err b k n j more x hx)
        have hf0 : (f != 0) = true := by rw [bne_iff_ne]; exact unhide hf
        clear hx
        go_wp2_with fail
        refine (bytes_fail R b p f more _ (unhide hp) (unhide hf)).mono ?_
        rintro e w1 ⟨rfl, rfl⟩
        obtain ⟨c0, c1, c2, z0, z1, z2⟩ := rdr_cells (unhide hp)
        go_wp2_with fail
        go_ret2
        exact ⟨by rw [unhide HW]; rfl, hbw⟩

end Go.Proofs.YtdhobdmhnocbgabGreat
