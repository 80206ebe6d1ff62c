/-
  Walks: rows of pieces, the data of an SRV (isRow, isService).
-/
import Derived.Test.YtdhobdmhnocbgaaGreatSNameW
import Derived.Test.YtdhobdmhnocbgaaGreatSDatas
namespace Go.Proofs.YtdhobdmhnocbgaaGreat
open Go.RowKit Zr

/-- A store into a reader of the call's own. -/
theorem below_grown {B : Nat} {a w w' : World} {R : Nat} (h : Below B a w) (hg : w.grownBy w' (some R)) (hB : B ≤ w.heap.size) (hr : B ≤ R) : Below B a w' :=
  Below.grown h hg hB (fun k hk => by cases hk; exact hr)

set_option maxHeartbeats 1000000 in
theorem isRow_any (s : ByteArray) (a wd : Int) (w : World) (hb : s.size ≤ 65535) (ha : 0 ≤ a) (ha2 : a ≤ 2) (hw : 1 ≤ wd) (hw2 : wd ≤ 2) :
    Calls Tryz.prog 180 #[.string s, .int .i64 a, .int .i64 wd] w fun e w' => e = .returned (.bool (rowB s a.toNat wd.toNat)) ∧ Below w.heap.size w w' := by
  obtain ⟨a, rfl⟩ := Int.eq_ofNat_of_zero_le ha
  obtain ⟨wd, rfl⟩ := Int.eq_ofNat_of_zero_le (show 0 ≤ wd by omega)
  rw [Int.toNat_natCast, Int.toNat_natCast]
  generalize hR : w.heap.size = R
  go_enter Tryz.func180, Tryz.ntmps180
  go_wp2_with fail
  have h0 : (w.alloc (.cells #[.string s, .int .i64 0, .int .i64 0] 114)).heap[R]? = some (rdr s 0 0) := by rw [← hR]; exact heap_alloc_new _ _
  have h0' : Below R w (w.alloc (.cells #[.string s, .int .i64 0, .int .i64 0] 114)) := (Below.refl _ _).alloc (Nat.le_of_eq hR.symm) _
  generalize w.alloc (.cells #[.string s, .int .i64 0, .int .i64 0] 114) = w0 at *
  have hRw : R ≤ w0.heap.size := Nat.le_of_lt (blk_lt h0)
  have H0 := hide h0
  clear h0 hRw
  go_loopg [] (s.size + 1) (fun g w' => ∃ (k : Nat) (f : Int), Hid (w'.heap[R]? = some (rdr s k f)) ∧ Below R w w' ∧ k ≤ s.size ∧ ((Hid (f = 0) ∧ s.size < k + g ∧ ∃ n, s.size < k + n ∧ Hid (rowB s a wd = rowF s a wd n k)) ∨ (Hid (f ≠ 0) ∧ Hid (rowB s a wd = false))))
  case atStart => exact ⟨0, 0, H0, h0', Nat.zero_le _, .inl ⟨rfl, by omega, s.size + 1, by omega, rfl⟩⟩
  case round =>
    obtain ⟨k, f, hk, hbw, hks, hcase⟩ := hrel
    have hRl := blk_lt (unhide hk)
    obtain ⟨c0, c1, c2, z0, z1, z2⟩ := rdr_cells (unhide hk)
    rcases hcase with ⟨hf, hg, n, hn, hrow⟩ | ⟨hf, hrow⟩
    · have hf0 := unhide hf
      subst hf0
      by_cases ck : s.size ≤ k
      · have hk' : ¬ ((k : Int) < s.size) := by omega
        have hv : rowB s a wd = true := by
          rw [unhide hrow]
          cases n with
          | zero => rfl
          | succ n => simp only [rowF]; rw [if_pos ck]
        have HV := hide hv
        clear hv
        go_wp2_with fail
        go_ret
        exact ⟨by rw [unhide HV]; rfl, hbw⟩
      · obtain ⟨n, rfl⟩ : ∃ m, n = m + 1 := ⟨n - 1, by omega⟩
        have hrow' := unhide hrow
        simp only [rowF, if_neg ck] at hrow'
        clear hrow
        by_cases cA : s.size < k + a
        · rw [if_pos cA] at hrow'
          have HV := hide hrow'
          clear hrow'
          go_wp2_with fail
          refine (bytes_short R s k a _ hb (unhide hk) (by omega) (by omega) (by omega) (by omega)).mono ?_
          rintro e w1 ⟨rfl, hR1, hg1⟩
          go_wp2_with fail
          refine (number_fail R s k 2 wd _ hR1 (by decide)).mono ?_
          rintro e w2 ⟨rfl, rfl⟩
          go_wp2_with fail
          refine (bytes_fail R s k 2 0 _ hR1 (by decide)).mono ?_
          rintro e w2 ⟨rfl, rfl⟩
          go_wp2_with fail
          go_roundg 0
          case measure => omega
          case rel => exact ⟨k, 2, hR1, below_grown hbw hg1 (by omega) (Nat.le_refl _), hks, .inr ⟨by show (2 : Int) ≠ 0; decide, HV⟩⟩
        · rw [if_neg cA] at hrow'
          by_cases cB : s.size < k + a + wd
          · rw [if_pos cB] at hrow'
            have HV := hide hrow'
            clear hrow'
            go_wp2_with fail
            refine (bytes_ok R s k a _ hb (unhide hk) (by omega) (by omega) (by omega)).mono ?_
            rintro e w1 ⟨rfl, hR1, hg1⟩
            go_wp2_with fail
            refine (number_short R s (k + a) wd _ hb hR1 (by omega) (by omega) (by omega) (by omega)).mono ?_
            rintro e w2 ⟨rfl, hR2, hg2⟩
            go_wp2_with fail
            refine (bytes_fail R s (k + a) 2 0 _ hR2 (by decide)).mono ?_
            rintro e w3 ⟨rfl, rfl⟩
            go_wp2_with fail
            go_roundg 0
            case measure => omega
            case rel => exact ⟨k + a, 2, hR2, below_grown hbw (grown_trans hg1 hg2) (by omega) (Nat.le_refl _), by omega, .inr ⟨by show (2 : Int) ≠ 0; decide, HV⟩⟩
          · rw [if_neg cB] at hrow'
            have hlt := num_lt4 s (k + a) wd (by omega)
            have htn : ((k : Int) + a).toNat = k + a := by omega
            by_cases cC : s.size < k + a + wd + num s (k + a) wd
            · rw [if_pos cC] at hrow'
              have HV := hide hrow'
              clear hrow'
              go_wp2_with fail
              refine (bytes_ok R s k a _ hb (unhide hk) (by omega) (by omega) (by omega)).mono ?_
              rintro e w1 ⟨rfl, hR1, hg1⟩
              go_wp2_with fail
              refine (number_ok R s (k + a) wd _ hb hR1 (by omega) (by omega) (by omega) (by omega)).mono ?_
              rw [htn, Int.toNat_natCast]
              rintro e w2 ⟨rfl, hR2, hg2⟩
              go_wp2_with fail
              refine (bytes_short R s (k + a + wd) (num s (k + a) wd) _ hb hR2 (by omega) (by omega) (by omega) (by omega)).mono ?_
              rintro e w3 ⟨rfl, hR3, hg3⟩
              go_wp2_with fail
              go_roundg 0
              case measure => omega
              case rel => exact ⟨k + a + wd, 2, hR3, below_grown hbw (grown_trans (grown_trans hg1 hg2) hg3) (by omega) (Nat.le_refl _), by omega, .inr ⟨by show (2 : Int) ≠ 0; decide, HV⟩⟩
            · rw [if_neg cC] at hrow'
              have HV := hide hrow'
              clear hrow'
              go_wp2_with fail
              refine (bytes_ok R s k a _ hb (unhide hk) (by omega) (by omega) (by omega)).mono ?_
              rintro e w1 ⟨rfl, hR1, hg1⟩
              go_wp2_with fail
              refine (number_ok R s (k + a) wd _ hb hR1 (by omega) (by omega) (by omega) (by omega)).mono ?_
              rw [htn, Int.toNat_natCast]
              rintro e w2 ⟨rfl, hR2, hg2⟩
              go_wp2_with fail
              refine (bytes_ok R s (k + a + wd) (num s (k + a) wd) _ hb hR2 (by omega) (by omega) (by omega)).mono ?_
              rintro e w3 ⟨rfl, hR3, hg3⟩
              go_wp2_with fail
              go_roundg (gk - 1)
              case measure => omega
              case rel => exact ⟨k + a + wd + num s (k + a) wd, 0, hR3, below_grown hbw (grown_trans (grown_trans hg1 hg2) hg3) (by omega) (Nat.le_refl _), by omega, .inl ⟨rfl, by omega, n, by omega, HV⟩⟩
    · have hf0 : (f == 0) = false := beq_eq_false_iff_ne.2 (unhide hf)
      go_wp2_with fail
      go_ret
      exact ⟨by rw [unhide hrow]; rfl, hbw⟩

set_option maxHeartbeats 400000 in
theorem isService_any (s : ByteArray) (w : World) (hb : s.size ≤ 65535) :
    Calls Tryz.prog 179 #[.string s] w fun e w' => e = .returned (.bool (svcB s)) ∧ Below w.heap.size w w' := by
  obtain ⟨r, hr⟩ : ∃ r, runOf s 6 254 = r := ⟨_, rfl⟩
  have HS : Hid (svcB s = (r.fail == 0 && !r.pointed && r.next == s.size)) := by show _ = _; unfold svcB; rw [hr]
  have Hr := hide hr
  clear hr
  go_enter Tryz.func179, Tryz.ntmps179
  go_wp2_with fail
  refine (readRun_is s 6 254 _ r Hr (big hb) (by omega) (by omega)).mono ?_
  rintro e w1 ⟨rfl, hb1⟩
  go_wp2_with fail
  all_goals
    go_ret
    exact ⟨ret_bool (by rw [unhide HS]; simp [*]), Below.alloc hb1 hb1.size _⟩

end Go.Proofs.YtdhobdmhnocbgaaGreat
