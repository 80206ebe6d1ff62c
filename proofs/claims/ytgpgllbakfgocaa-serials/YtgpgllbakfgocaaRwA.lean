/-
  Walks over the document's own answer: which messages are well made (word, length, wellData, wellRecord).
-/
import Derived.Test.YtgpgllbakfgocaaWellX
import Derived.Test.YtgpgllbakfgocaaRefB
import Derived.Test.YtgpgllbakfgocaaMsgx
namespace Go.Proofs.Ytgpgllbakfgocaa
open Go.RowKit Zr

theorem refWord_any (n most : Int) (w : World) : Calls Try.prog 52 #[.int .i64 n, .int .i64 most] w fun e w' => BoolIs (0 ≤ n ∧ n ≤ most) e ∧ w' = w := by
  by_cases c1 : 0 ≤ n
  · by_cases c2 : n ≤ most
    · go_enter Try.func52, Try.ntmps52
      go_wp2_with fail
      go_ret
      exact ⟨⟨_, rfl, by simp [c1]; omega⟩, rfl⟩
    · go_enter Try.func52, Try.ntmps52
      go_wp2_with fail
      go_ret
      exact ⟨⟨_, rfl, by simp; omega⟩, rfl⟩
  · go_enter Try.func52, Try.ntmps52
    go_wp2_with fail
    go_ret
    exact ⟨⟨_, rfl, by simp; omega⟩, rfl⟩

set_option maxRecDepth 100000 in
set_option maxHeartbeats 1000000 in
theorem length_any (s : ByteArray) (w : World) (hs : s.size ≤ 65535) :
    Calls Try.prog 75 #[.string s] w fun e w' => e = .returned (.int .i64 (lenN s)) ∧ w' = w := by
  have hle := lenN_le s
  obtain ⟨n, hn⟩ : ∃ n, lenN s = n := ⟨_, rfl⟩
  rw [hn] at hle ⊢
  have HN := hide hn
  clear hn
  go_enter Try.func75, Try.ntmps75
  go_wp2_with fail
  go_loop [3] (fun i => ∃ j : Nat, 1 ≤ j ∧ j ≤ s.size + 1 ∧ j ≤ 256 ∧ i = .int .i64 j ∧ Hid (∀ k, 1 ≤ k → k < j → n ≠ k)) (fun i => s.size + 1 - (intOf i).toNat)
  case atStart => exact ⟨1, by omega, by omega, by omega, rfl, fun k h1 h2 => by omega⟩
  case round =>
    obtain ⟨j, hj1, hj2, hj3, rfl, hno⟩ := hrel
    by_cases c1 : j ≤ s.size
    · by_cases c2 : j ≤ 255
      · have hg := bt_get s (j - 1) (by omega)
        have hl := bt_lt s (j - 1)
        have hjj : ((j : Int) - 1) = ((j - 1 : Nat) : Int) := by omega
        have hex : (s.extract 0 j).size ≤ 281474976710656 := by rw [ByteArray.size_extract]; omega
        by_cases c3 : bt s (j - 1) = 0
        · have c3' : ((bt s (j - 1) : Int) == 0) = true := by rw [beq_iff_eq]; omega
          have hiff := lenN_iff s j hj1 c1
          rw [unhide HN] at hiff
          cases hb : wholeB (s.extract 0 j) with
          | true =>
            have hnj := hiff.1 hb
            have HNJ := hide hnj
            have HB := hide hb
            clear hnj hb hiff hle
            rw [c3] at hg
            clear c3
            go_wp2_with fail
            refine (whole_any (s.extract 0 j) _ hex).mono ?_
            rw [unhide HB]
            rintro e w' ⟨rfl, rfl⟩
            go_wp2_with fail
            go_ret
            exact ⟨by rw [unhide HNJ]; rfl, rfl⟩
          | false =>
            have hnj : n ≠ j := fun e => by rw [hiff.2 e] at hb; simp at hb
            have HNo : Hid (∀ k, 1 ≤ k → k < j + 1 → n ≠ k) := fun k h1 h2 => by
              by_cases e : k = j
              · subst e; exact hnj
              · exact unhide hno k h1 (by omega)
            have HB := hide hb
            clear hnj hb hiff hle
            rw [c3] at hg
            clear c3
            go_wp2_with fail
            refine (whole_any (s.extract 0 j) _ hex).mono ?_
            rw [unhide HB]
            rintro e w' ⟨rfl, rfl⟩
            go_wp2_with fail
            go_round
            case rel => exact ⟨j + 1, by omega, by omega, by omega, by go_num, HNo⟩
            case measure => simp [intOf]; omega
        · have c3' : ((bt s (j - 1) : Int) == 0) = false := beq_eq_false_iff_ne.2 (by omega)
          have HNo : Hid (∀ k, 1 ≤ k → k < j + 1 → n ≠ k) := fun k h1 h2 => by
            by_cases e : k = j
            · subst e
              intro e2
              have h3 := lenN_last s (by rw [unhide HN]; omega)
              rw [unhide HN, e2] at h3
              exact c3 h3
            · exact unhide hno k h1 (by omega)
          clear hle c3
          go_wp2_with fail
          go_round
          case rel => exact ⟨j + 1, by omega, by omega, by omega, by go_num, HNo⟩
          case measure => simp [intOf]; omega
      · have hn0 : n = 0 := by
          false_or_by_contra
          exact unhide hno n (by omega) (by omega) rfl
        have HN0 := hide hn0
        clear hn0 hle
        go_wp2_with fail
        go_ret
        exact ⟨by rw [unhide HN0]; rfl, rfl⟩
    · have hn0 : n = 0 := by
        false_or_by_contra
        exact unhide hno n (by omega) (by omega) rfl
      have HN0 := hide hn0
      clear hn0 hle
      go_wp2_with fail
      go_ret
      exact ⟨by rw [unhide HN0]; rfl, rfl⟩

set_option maxHeartbeats 400000 in
theorem flat_neg (t : Int) (s : ByteArray) (w : World) (ht : t < 0) :
    Calls Try.prog 83 #[.int .i64 t, .string s] w fun e w' => e = .returned (.bool true) ∧ w' = w := by
  have n1 : (t == 1) = false := beq_eq_false_iff_ne.2 (by omega)
  have n2 : (t == 28) = false := beq_eq_false_iff_ne.2 (by omega)
  have n3 : (t == 16) = false := beq_eq_false_iff_ne.2 (by omega)
  have n4 : (t == 41) = false := beq_eq_false_iff_ne.2 (by omega)
  have n5 : (t == 33) = false := beq_eq_false_iff_ne.2 (by omega)
  go_enter Try.func83, Try.ntmps83
  go_wp2_with fail
  go_ret
  exact ⟨rfl, rfl⟩

/-- What is left of data behind j names at their front. -/
def cutTo (d : ByteArray) : Nat → ByteArray
  | 0 => d
  | j + 1 => (cutTo d j).extract (lenN (cutTo d j)) (cutTo d j).size

theorem cutTo_size (d : ByteArray) : ∀ j, (cutTo d j).size ≤ d.size := by
  intro j
  induction j with
  | zero => exact Nat.le_refl _
  | succ j ih => rw [cutTo, ByteArray.size_extract]; omega

theorem well_cut (t : Nat) (d : ByteArray) (hn : namesOf t ≠ 0) : wellD t d ↔ (∀ i, i < namesOf t → lenN (cutTo d i) ≠ 0) ∧ (cutTo d (namesOf t)).size = restOf t := by
  have h1 := lenN_le d
  by_cases c1 : t = 2 ∨ t = 5 ∨ t = 12
  · have e1 : namesOf t = 1 := by unfold namesOf; rw [if_pos c1]
    have e2 : restOf t = 0 := by unfold restOf; rw [if_pos c1]
    rw [e1, e2, wellD_one d t c1, lenN_one d]
    have e3 : (cutTo d 1).size = d.size - lenN d := by simp only [cutTo]; rw [ByteArray.size_extract]; omega
    rw [e3]
    constructor
    · intro ⟨h2, h3⟩
      exact ⟨fun i hi => by have : i = 0 := by omega
                            subst this; exact h2, h3⟩
    · intro ⟨h2, h3⟩
      exact ⟨h2 0 (by omega), h3⟩
  · have e0 : t = 6 := by unfold namesOf at hn; rw [if_neg c1] at hn; split at hn <;> omega
    subst e0
    have e1 : namesOf 6 = 2 := rfl
    have e2 : restOf 6 = 20 := rfl
    rw [e1, e2, wellD_two d, lenN_two d]
    have h2 := lenN_le (d.extract (lenN d) d.size)
    have e4 : cutTo d 1 = d.extract (lenN d) d.size := rfl
    have e5 : (d.extract (lenN d) d.size).size = d.size - lenN d := by rw [ByteArray.size_extract]; omega
    have e3 : (cutTo d 2).size = d.size - lenN d - lenN (d.extract (lenN d) d.size) := by
      show ((cutTo d 1).extract (lenN (cutTo d 1)) (cutTo d 1).size).size = _
      rw [e4, ByteArray.size_extract]; omega
    rw [e3]
    constructor
    · intro ⟨h3, h4, h5⟩
      refine ⟨fun i hi => ?_, h5⟩
      by_cases c : i = 0
      · subst c; exact h3
      · have : i = 1 := by omega
        subst this; rw [e4]; exact h4
    · intro ⟨h3, h4⟩
      exact ⟨h3 0 (by omega), by have := h3 1 (by omega); rw [e4] at this; exact this, h4⟩

theorem refNames_nat (t : Nat) (w : World) : Calls Try.prog 74 #[.int .i64 t] w fun e w' => e = .returned (.tuple #[.int .i64 (namesOf t), .int .i64 (restOf t)]) ∧ w' = w := by
  have h := names_any (t : Int) w
  by_cases c1 : t = 2 ∨ t = 5 ∨ t = 12
  · have c1' : (t : Int) = 2 ∨ (t : Int) = 5 ∨ (t : Int) = 12 := by omega
    rw [if_pos c1', if_pos c1'] at h
    have e1 : namesOf t = 1 := by unfold namesOf; rw [if_pos c1]
    have e2 : restOf t = 0 := by unfold restOf; rw [if_pos c1]
    rw [e1, e2]; exact h
  · have c1' : ¬ ((t : Int) = 2 ∨ (t : Int) = 5 ∨ (t : Int) = 12) := by omega
    rw [if_neg c1', if_neg c1'] at h
    by_cases c2 : t = 6
    · rw [if_pos (by omega), if_pos (by omega)] at h
      subst c2; exact h
    · rw [if_neg (by omega), if_neg (by omega)] at h
      have e1 : namesOf t = 0 := by unfold namesOf; rw [if_neg c1, if_neg c2]
      have e2 : restOf t = 0 := by unfold restOf; rw [if_neg c1, if_neg c2]
      rw [e1, e2]; exact h

/-- A bool that tells whether something holds, where a condition is met. -/
def BoolIf (C P : Prop) (e : Ending) : Prop := ∃ b, e = .returned (.bool b) ∧ (C → (b = true ↔ P))

set_option maxRecDepth 100000 in
set_option maxHeartbeats 1000000 in
theorem wellData_any (t : Int) (d : ByteArray) (w : World) :
    Calls Try.prog 90 #[.int .i64 t, .string d] w fun e w' => BoolIf (0 ≤ t) (wellD t.toNat d) e ∧ w' = w := by
  by_cases cs : d.size ≤ 65535
  · by_cases ct : t < 0
    · have hn : ¬ (t = 2 ∨ t = 5 ∨ t = 12) := by omega
      have key := names_any t w
      rw [if_neg hn, if_neg hn, if_neg (by omega), if_neg (by omega)] at key
      have Key := hide key
      clear key hn
      go_enter Try.func90, Try.ntmps90
      go_wp2_with fail
      refine (unhide Key).mono ?_
      rintro e w1 ⟨rfl, hw1⟩
      rw [hw1]
      clear hw1
      go_wp2_with fail
      refine (flat_neg t d _ ct).mono ?_
      rintro e w2 ⟨rfl, hw2⟩
      rw [hw2]
      clear hw2
      go_wp2_with fail
      go_ret
      exact ⟨⟨_, rfl, fun h => by omega⟩, rfl⟩
    · obtain ⟨t, rfl⟩ := Int.eq_ofNat_of_zero_le (show 0 ≤ t by omega)
      rw [Int.toNat_natCast]
      have key := refNames_nat t
      by_cases hn : namesOf t = 0
      · have hW : wellD t d ↔ flatB t d = true := by
          rw [wellD_flat d t (fun c => by unfold namesOf at hn; rw [if_pos c] at hn; omega) (fun c => by unfold namesOf at hn; rw [if_neg (by omega), if_pos c] at hn; omega)]
          exact ⟨fun h => h.2, fun h => ⟨cs, h⟩⟩
        have HW := hide hW
        rw [hn] at key
        have Key := hide key
        clear key hW hn
        generalize restOf t = more at *
        go_enter Try.func90, Try.ntmps90
        go_wp2_with fail
        refine (unhide Key _).mono ?_
        rintro e w1 ⟨rfl, hw1⟩
        rw [hw1]
        clear hw1
        go_wp2_with fail
        refine (flat_any t d _ cs).mono ?_
        rintro e w2 ⟨rfl, hw2⟩
        rw [hw2]
        clear hw2
        go_wp2_with fail
        go_ret
        exact ⟨⟨_, rfl, fun _ => (unhide HW).symm⟩, rfl⟩
      · have HW := hide (well_cut t d hn)
        have hm2 := namesOf_le t
        have Key := hide key
        have hm0 : ((namesOf t : Int) == 0) = false := beq_eq_false_iff_ne.2 (by omega)
        have hrest : restOf t ≤ 20 := by unfold restOf; split <;> (try split) <;> omega
        clear key
        generalize wellD t d = W at *
        generalize namesOf t = m at *
        generalize restOf t = more at *
        clear hn
        go_enter Try.func90, Try.ntmps90
        go_wp2_with fail
        refine (unhide Key _).mono ?_
        rintro e w1 ⟨rfl, hw1⟩
        rw [hw1]
        clear hw1
        go_wp2_with fail
        go_loop [1, 5] (fun s k => ∃ j : Nat, j ≤ m ∧ s = .string (cutTo d j) ∧ k = .int .i64 ((m - j : Nat) : Int) ∧ Hid (∀ i, i < j → lenN (cutTo d i) ≠ 0)) (fun _ k => (intOf k).toNat)
        case atStart => exact ⟨0, Nat.zero_le _, rfl, rfl, fun i hi => by omega⟩
        case round =>
          obtain ⟨j, hj, rfl, rfl, hno⟩ := hrel
          have hsz := cutTo_size d j
          by_cases cj : j < m
          · have hnx : cutTo d (j + 1) = (cutTo d j).extract (lenN (cutTo d j)) (cutTo d j).size := rfl
            have hll := lenN_le (cutTo d j)
            have HBad : Hid (lenN (cutTo d j) = 0 → ¬ W) := fun h1 h2 => ((unhide HW).1 h2).1 j cj h1
            have HGood : Hid (lenN (cutTo d j) ≠ 0 → ∀ i, i < j + 1 → lenN (cutTo d i) ≠ 0) := fun h1 i hi => by
              by_cases e : i = j
              · subst e; exact h1
              · exact unhide hno i (by omega)
            have HNx := hide hnx
            clear hnx
            generalize cutTo d j = s at *
            have hkj : ((m - j : Nat) : Int) = (m : Int) - j := by omega
            have key2 := fun w => length_any s w (by omega)
            have Key2 := hide key2
            clear key2
            generalize hln : lenN s = n at *
            by_cases cn : n = 0
            · subst cn
              go_wp2_with fail
              refine (unhide Key2 _).mono ?_
              rintro e w2 ⟨rfl, hw2⟩
              rw [hw2]
              clear hw2
              go_wp2_with fail
              go_ret
              exact ⟨⟨_, rfl, fun _ => ⟨fun h => by simp at h, fun h => absurd h (unhide HBad (by simp))⟩⟩, rfl⟩
            · have cn' : ((n : Int) == 0) = false := beq_eq_false_iff_ne.2 (by omega)
              have hgood := unhide HGood cn
              have HG := hide hgood
              clear hgood
              go_wp2_with fail
              refine (unhide Key2 _).mono ?_
              rintro e w2 ⟨rfl, hw2⟩
              rw [hw2]
              clear hw2
              go_wp2_with fail
              go_round
              case rel => exact ⟨j + 1, by omega, by rw [unhide HNx], by go_num, HG⟩
              case measure => simp [intOf]; omega
          · have hjm : j = m := by omega
            subst hjm
            have hW2 : W ↔ (cutTo d j).size = more := by
              rw [unhide HW]
              exact ⟨fun h => h.2, fun h => ⟨unhide hno, h⟩⟩
            have HW2 := hide hW2
            clear hW2
            generalize cutTo d j = s at *
            rw [Nat.sub_self]
            go_wp2_with fail
            go_ret
            exact ⟨⟨_, rfl, fun _ => by rw [unhide HW2]; simp; omega⟩, rfl⟩
  · have HW : Hid (¬ wellD t.toNat d) := fun h => cs h.1
    go_enter Try.func90, Try.ntmps90
    go_wp2_with fail
    go_ret
    exact ⟨⟨_, rfl, fun _ => by simp [unhide HW]⟩, rfl⟩

end Go.Proofs.Ytgpgllbakfgocaa
