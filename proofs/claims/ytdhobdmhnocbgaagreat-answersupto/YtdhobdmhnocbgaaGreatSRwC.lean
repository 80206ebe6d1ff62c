/-
  Walks over the document's own answer: which messages are well made (word, length, wellData, wellRecord).
-/
/-
  Walks over the document's own answer: which messages are well made (wellRecord, wellPart).
-/
/-
  Walks over the document's own answer: which messages are well made (wellPart, Well).
-/
import Derived.Test.YtdhobdmhnocbgaaGreatSWellY
import Derived.Test.YtdhobdmhnocbgaaGreatSRefD
import Derived.Test.YtdhobdmhnocbgaaGreatSMsgx
namespace Go.Proofs.YtdhobdmhnocbgaaGreat
open Go.RowKit Zr

theorem refWord_any (n most : Int) (w : World) : Calls Tryz.prog 85 #[.int .i64 n, .int .i64 most] w fun e w' => BoolIs (0 ≤ n ∧ n ≤ most) e ∧ w' = w := by
  by_cases c1 : 0 ≤ n
  · by_cases c2 : n ≤ most
    · go_enter Tryz.func85, Tryz.ntmps85
      go_wp2_with fail
      go_ret
      exact ⟨⟨_, rfl, by simp [c1]; omega⟩, rfl⟩
    · go_enter Tryz.func85, Tryz.ntmps85
      go_wp2_with fail
      go_ret
      exact ⟨⟨_, rfl, by simp; omega⟩, rfl⟩
  · go_enter Tryz.func85, Tryz.ntmps85
    go_wp2_with fail
    go_ret
    exact ⟨⟨_, rfl, by simp; omega⟩, rfl⟩

set_option maxRecDepth 100000 in
set_option maxHeartbeats 1000000 in
theorem length_any (s : ByteArray) (w : World) (hs : s.size ≤ 65535) :
    Calls Tryz.prog 122 #[.string s] w fun e w' => e = .returned (.int .i64 (lenN s)) ∧ w' = w := by
  have hle := lenN_le s
  obtain ⟨n, hn⟩ : ∃ n, lenN s = n := ⟨_, rfl⟩
  rw [hn] at hle ⊢
  have HN := hide hn
  clear hn
  go_enter Tryz.func122, Tryz.ntmps122
  go_wp2_with fail
  go_loop [3] (fun i => ∃ j : Nat, 1 ≤ j ∧ j ≤ s.size + 1 ∧ j ≤ 256 ∧ i = .int .i64 j ∧ Hid (∀ k, 1 ≤ k → k < j → n ≠ k)) (fun i => s.size + 1 - (intOf i).toNat)
  case atStart => exact ⟨1, by omega, by omega, by omega, rfl, fun k h1 h2 => by omega⟩
  case round =>
    obtain ⟨j, hj1, hj2, hj3, rfl, hno⟩ := hrel
    by_cases c1 : j ≤ s.size
    · by_cases c2 : j ≤ 255
      · have hg := bt_get s (j - 1) (by omega)
        have hl := bt_lt s (j - 1)
        have hjj : ((j : Int) - 1) = ((j - 1 : Nat) : Int) := by omega
        have hex : (s.extract 0 j).size ≤ 281474976710656 := by rw [ByteArray.size_extract]; omega
        by_cases c3 : bt s (j - 1) = 0
        · have c3' : ((bt s (j - 1) : Int) == 0) = true := by rw [beq_iff_eq]; omega
          have hiff := lenN_iff s j hj1 c1
          rw [unhide HN] at hiff
          cases hb : wholeB (s.extract 0 j) with
          | true =>
            have hnj := hiff.1 hb
            have HNJ := hide hnj
            have HB := hide hb
            clear hnj hb hiff hle
            rw [c3] at hg
            clear c3
            go_wp2_with fail
            refine (whole_any (s.extract 0 j) _ hex).mono ?_
            rw [unhide HB]
            rintro e w' ⟨rfl, rfl⟩
            go_wp2_with fail
            go_ret
            exact ⟨by rw [unhide HNJ]; rfl, rfl⟩
          | false =>
            have hnj : n ≠ j := fun e => by rw [hiff.2 e] at hb; simp at hb
            have HNo : Hid (∀ k, 1 ≤ k → k < j + 1 → n ≠ k) := fun k h1 h2 => by
              by_cases e : k = j
              · subst e; exact hnj
              · exact unhide hno k h1 (by omega)
            have HB := hide hb
            clear hnj hb hiff hle
            rw [c3] at hg
            clear c3
            go_wp2_with fail
            refine (whole_any (s.extract 0 j) _ hex).mono ?_
            rw [unhide HB]
            rintro e w' ⟨rfl, rfl⟩
            go_wp2_with fail
            go_round
            case rel => exact ⟨j + 1, by omega, by omega, by omega, by go_num, HNo⟩
            case measure => simp [intOf]; omega
        · have c3' : ((bt s (j - 1) : Int) == 0) = false := beq_eq_false_iff_ne.2 (by omega)
          have HNo : Hid (∀ k, 1 ≤ k → k < j + 1 → n ≠ k) := fun k h1 h2 => by
            by_cases e : k = j
            · subst e
              intro e2
              have h3 := lenN_last s (by rw [unhide HN]; omega)
              rw [unhide HN, e2] at h3
              exact c3 h3
            · exact unhide hno k h1 (by omega)
          clear hle c3
          go_wp2_with fail
          go_round
          case rel => exact ⟨j + 1, by omega, by omega, by omega, by go_num, HNo⟩
          case measure => simp [intOf]; omega
      · have hn0 : n = 0 := by
          false_or_by_contra
          exact unhide hno n (by omega) (by omega) rfl
        have HN0 := hide hn0
        clear hn0 hle
        go_wp2_with fail
        go_ret
        exact ⟨by rw [unhide HN0]; rfl, rfl⟩
    · have hn0 : n = 0 := by
        false_or_by_contra
        exact unhide hno n (by omega) (by omega) rfl
      have HN0 := hide hn0
      clear hn0 hle
      go_wp2_with fail
      go_ret
      exact ⟨by rw [unhide HN0]; rfl, rfl⟩

set_option maxHeartbeats 400000 in
theorem flat_neg (t : Int) (s : ByteArray) (w : World) (ht : t < 0) :
    Calls Tryz.prog 120 #[.int .i64 t, .string s] w fun e w' => e = .returned (.bool true) ∧ w' = w := by
  have n1 : (t == 1) = false := beq_eq_false_iff_ne.2 (by omega)
  have n2 : (t == 28) = false := beq_eq_false_iff_ne.2 (by omega)
  have n3 : (t == 16) = false := beq_eq_false_iff_ne.2 (by omega)
  have n4 : (t == 41) = false := beq_eq_false_iff_ne.2 (by omega)
  have n5 : (t == 33) = false := beq_eq_false_iff_ne.2 (by omega)
  go_enter Tryz.func120, Tryz.ntmps120
  go_wp2_with fail
  go_ret
  exact ⟨rfl, rfl⟩

/-- What is left of data behind j names at their front. -/
def cutTo (d : ByteArray) : Nat → ByteArray
  | 0 => d
  | j + 1 => (cutTo d j).extract (lenN (cutTo d j)) (cutTo d j).size

theorem cutTo_size (d : ByteArray) : ∀ j, (cutTo d j).size ≤ d.size := by
  intro j
  induction j with
  | zero => exact Nat.le_refl _
  | succ j ih => rw [cutTo, ByteArray.size_extract]; omega

theorem well_cut (t : Nat) (d : ByteArray) (hn : namesOf t ≠ 0) : wellD t d ↔ (∀ i, i < namesOf t → lenN (cutTo d i) ≠ 0) ∧ (cutTo d (namesOf t)).size = restOf t := by
  have h1 := lenN_le d
  by_cases c1 : t = 2 ∨ t = 5 ∨ t = 12
  · have e1 : namesOf t = 1 := by unfold namesOf; rw [if_pos c1]
    have e2 : restOf t = 0 := by unfold restOf; rw [if_pos c1]
    rw [e1, e2, wellD_one d t c1, lenN_one d]
    have e3 : (cutTo d 1).size = d.size - lenN d := by simp only [cutTo]; rw [ByteArray.size_extract]; omega
    rw [e3]
    constructor
    · intro ⟨h2, h3⟩
      exact ⟨fun i hi => by have : i = 0 := by omega
                            subst this; exact h2, h3⟩
    · intro ⟨h2, h3⟩
      exact ⟨h2 0 (by omega), h3⟩
  · have e0 : t = 6 := by unfold namesOf at hn; rw [if_neg c1] at hn; split at hn <;> omega
    subst e0
    have e1 : namesOf 6 = 2 := rfl
    have e2 : restOf 6 = 20 := rfl
    rw [e1, e2, wellD_two d, lenN_two d]
    have h2 := lenN_le (d.extract (lenN d) d.size)
    have e4 : cutTo d 1 = d.extract (lenN d) d.size := rfl
    have e5 : (d.extract (lenN d) d.size).size = d.size - lenN d := by rw [ByteArray.size_extract]; omega
    have e3 : (cutTo d 2).size = d.size - lenN d - lenN (d.extract (lenN d) d.size) := by
      show ((cutTo d 1).extract (lenN (cutTo d 1)) (cutTo d 1).size).size = _
      rw [e4, ByteArray.size_extract]; omega
    rw [e3]
    constructor
    · intro ⟨h3, h4, h5⟩
      refine ⟨fun i hi => ?_, h5⟩
      by_cases c : i = 0
      · subst c; exact h3
      · have : i = 1 := by omega
        subst this; rw [e4]; exact h4
    · intro ⟨h3, h4⟩
      exact ⟨h3 0 (by omega), by have := h3 1 (by omega); rw [e4] at this; exact this, h4⟩

theorem refNames_nat (t : Nat) (w : World) : Calls Tryz.prog 119 #[.int .i64 t] w fun e w' => e = .returned (.tuple #[.int .i64 (namesOf t), .int .i64 (restOf t)]) ∧ w' = w := by
  have h := names_any (t : Int) w
  by_cases c1 : t = 2 ∨ t = 5 ∨ t = 12
  · have c1' : (t : Int) = 2 ∨ (t : Int) = 5 ∨ (t : Int) = 12 := by omega
    rw [if_pos c1', if_pos c1'] at h
    have e1 : namesOf t = 1 := by unfold namesOf; rw [if_pos c1]
    have e2 : restOf t = 0 := by unfold restOf; rw [if_pos c1]
    rw [e1, e2]; exact h
  · have c1' : ¬ ((t : Int) = 2 ∨ (t : Int) = 5 ∨ (t : Int) = 12) := by omega
    rw [if_neg c1', if_neg c1'] at h
    by_cases c2 : t = 6
    · rw [if_pos (by omega), if_pos (by omega)] at h
      subst c2; exact h
    · rw [if_neg (by omega), if_neg (by omega)] at h
      have e1 : namesOf t = 0 := by unfold namesOf; rw [if_neg c1, if_neg c2]
      have e2 : restOf t = 0 := by unfold restOf; rw [if_neg c1, if_neg c2]
      rw [e1, e2]; exact h

/-- A bool that tells whether something holds, where a condition is met. -/
def BoolIf (C P : Prop) (e : Ending) : Prop := ∃ b, e = .returned (.bool b) ∧ (C → (b = true ↔ P))

set_option maxRecDepth 100000 in
set_option maxHeartbeats 1000000 in
theorem wellData_any (t : Int) (d : ByteArray) (w : World) :
    Calls Tryz.prog 149 #[.int .i64 t, .string d] w fun e w' => BoolIf (0 ≤ t) (wellD t.toNat d) e ∧ w' = w := by
  by_cases cs : d.size ≤ 65535
  · by_cases ct : t < 0
    · have hn : ¬ (t = 2 ∨ t = 5 ∨ t = 12) := by omega
      have key := names_any t w
      rw [if_neg hn, if_neg hn, if_neg (by omega), if_neg (by omega)] at key
      have Key := hide key
      clear key hn
      go_enter Tryz.func149, Tryz.ntmps149
      go_wp2_with fail
      refine (unhide Key).mono ?_
      rintro e w1 ⟨rfl, hw1⟩
      rw [hw1]
      clear hw1
      go_wp2_with fail
      refine (flat_neg t d _ ct).mono ?_
      rintro e w2 ⟨rfl, hw2⟩
      rw [hw2]
      clear hw2
      go_wp2_with fail
      go_ret
      exact ⟨⟨_, rfl, fun h => by omega⟩, rfl⟩
    · obtain ⟨t, rfl⟩ := Int.eq_ofNat_of_zero_le (show 0 ≤ t by omega)
      rw [Int.toNat_natCast]
      have key := refNames_nat t
      by_cases hn : namesOf t = 0
      · have hW : wellD t d ↔ flatB t d = true := by
          rw [wellD_flat d t (fun c => by unfold namesOf at hn; rw [if_pos c] at hn; omega) (fun c => by unfold namesOf at hn; rw [if_neg (by omega), if_pos c] at hn; omega)]
          exact ⟨fun h => h.2, fun h => ⟨cs, h⟩⟩
        have HW := hide hW
        rw [hn] at key
        have Key := hide key
        clear key hW hn
        generalize restOf t = more at *
        go_enter Tryz.func149, Tryz.ntmps149
        go_wp2_with fail
        refine (unhide Key _).mono ?_
        rintro e w1 ⟨rfl, hw1⟩
        rw [hw1]
        clear hw1
        go_wp2_with fail
        refine (flat_any t d _ cs).mono ?_
        rintro e w2 ⟨rfl, hw2⟩
        rw [hw2]
        clear hw2
        go_wp2_with fail
        go_ret
        exact ⟨⟨_, rfl, fun _ => (unhide HW).symm⟩, rfl⟩
      · have HW := hide (well_cut t d hn)
        have hm2 := namesOf_le t
        have Key := hide key
        have hm0 : ((namesOf t : Int) == 0) = false := beq_eq_false_iff_ne.2 (by omega)
        have hrest : restOf t ≤ 20 := by unfold restOf; split <;> (try split) <;> omega
        clear key
        generalize wellD t d = W at *
        generalize namesOf t = m at *
        generalize restOf t = more at *
        clear hn
        go_enter Tryz.func149, Tryz.ntmps149
        go_wp2_with fail
        refine (unhide Key _).mono ?_
        rintro e w1 ⟨rfl, hw1⟩
        rw [hw1]
        clear hw1
        go_wp2_with fail
        go_loop [1, 5] (fun s k => ∃ j : Nat, j ≤ m ∧ s = .string (cutTo d j) ∧ k = .int .i64 ((m - j : Nat) : Int) ∧ Hid (∀ i, i < j → lenN (cutTo d i) ≠ 0)) (fun _ k => (intOf k).toNat)
        case atStart => exact ⟨0, Nat.zero_le _, rfl, rfl, fun i hi => by omega⟩
        case round =>
          obtain ⟨j, hj, rfl, rfl, hno⟩ := hrel
          have hsz := cutTo_size d j
          by_cases cj : j < m
          · have hnx : cutTo d (j + 1) = (cutTo d j).extract (lenN (cutTo d j)) (cutTo d j).size := rfl
            have hll := lenN_le (cutTo d j)
            have HBad : Hid (lenN (cutTo d j) = 0 → ¬ W) := fun h1 h2 => ((unhide HW).1 h2).1 j cj h1
            have HGood : Hid (lenN (cutTo d j) ≠ 0 → ∀ i, i < j + 1 → lenN (cutTo d i) ≠ 0) := fun h1 i hi => by
              by_cases e : i = j
              · subst e; exact h1
              · exact unhide hno i (by omega)
            have HNx := hide hnx
            clear hnx
            generalize cutTo d j = s at *
            have hkj : ((m - j : Nat) : Int) = (m : Int) - j := by omega
            have key2 := fun w => length_any s w (by omega)
            have Key2 := hide key2
            clear key2
            generalize hln : lenN s = n at *
            by_cases cn : n = 0
            · subst cn
              go_wp2_with fail
              refine (unhide Key2 _).mono ?_
              rintro e w2 ⟨rfl, hw2⟩
              rw [hw2]
              clear hw2
              go_wp2_with fail
              go_ret
              exact ⟨⟨_, rfl, fun _ => ⟨fun h => by simp at h, fun h => absurd h (unhide HBad (by simp))⟩⟩, rfl⟩
            · have cn' : ((n : Int) == 0) = false := beq_eq_false_iff_ne.2 (by omega)
              have hgood := unhide HGood cn
              have HG := hide hgood
              clear hgood
              go_wp2_with fail
              refine (unhide Key2 _).mono ?_
              rintro e w2 ⟨rfl, hw2⟩
              rw [hw2]
              clear hw2
              go_wp2_with fail
              go_round
              case rel => exact ⟨j + 1, by omega, by rw [unhide HNx], by go_num, HG⟩
              case measure => simp [intOf]; omega
          · have hjm : j = m := by omega
            subst hjm
            have hW2 : W ↔ (cutTo d j).size = more := by
              rw [unhide HW]
              exact ⟨fun h => h.2, fun h => ⟨unhide hno, h⟩⟩
            have HW2 := hide hW2
            clear hW2
            generalize cutTo d j = s at *
            rw [Nat.sub_self]
            go_wp2_with fail
            go_ret
            exact ⟨⟨_, rfl, fun _ => by rw [unhide HW2]; simp; omega⟩, rfl⟩
  · have HW : Hid (¬ wellD t.toNat d) := fun h => cs h.1
    go_enter Tryz.func149, Tryz.ntmps149
    go_wp2_with fail
    go_ret
    exact ⟨⟨_, rfl, fun _ => by simp [unhide HW]⟩, rfl⟩

end Go.Proofs.YtdhobdmhnocbgaaGreat

namespace Go.Proofs.YtdhobdmhnocbgaaGreat
open Go.RowKit Zr

set_option maxRecDepth 100000 in
set_option maxHeartbeats 1000000 in
theorem wellRecord_any (x : RI) (w : World) (hn : x.name.size ≤ 281474976710656) :
    Calls Tryz.prog 121 #[rValI x] w fun e w' => BoolIs (recOk x) e ∧ Below w.heap.size w w' := by
  unfold rValI
  have HR : Hid (recOk x ↔ wholeB x.name = true ∧ wordOk x.ty ∧ wordOk x.cl ∧ (0 ≤ x.ttl ∧ x.ttl ≤ 4294967295) ∧ wellD x.ty.toNat x.data) := Iff.rfl
  unfold wordOk at HR
  generalize recOk x = ok at *
  obtain ⟨nm, ty, cl, ttl, dt⟩ := x
  simp only at hn HR ⊢
  have key := fun w => whole_any nm w hn
  have Key := hide key
  clear key
  generalize wholeB nm = bn at *
  have hB1 : ∀ o, Below w.heap.size w (w.alloc o) := fun o => (Below.refl _ _).alloc (Nat.le_refl _) _
  have HB1 := hide hB1
  clear hB1
  go_enter Tryz.func121, Tryz.ntmps121
  go_wp2_with fail
  refine (unhide Key _).mono ?_
  rintro e w1 ⟨rfl, hw1⟩
  rw [hw1]
  clear hw1 w1
  go_wp2_with fail
  refine (wellData_any ty dt _).mono ?_
  rintro e w1 ⟨⟨bd, rfl, hd⟩, hw1⟩
  have HD := hide hd
  rw [hw1]
  clear hw1 w1 hd
  go_wp2_with fail
  refine (refWord_any ty 65535 _).mono ?_
  rintro e w1 ⟨⟨bt, rfl, ht⟩, hw1⟩
  have HT := hide ht
  rw [hw1]
  clear hw1 w1 ht
  go_wp2_with fail
  refine (refWord_any cl 65535 _).mono ?_
  rintro e w1 ⟨⟨bc, rfl, hc⟩, hw1⟩
  have HC := hide hc
  rw [hw1]
  clear hw1 w1 hc
  go_wp2_with fail
  refine (refWord_any ttl 4294967295 _).mono ?_
  rintro e w1 ⟨⟨bl, rfl, hl⟩, hw1⟩
  have HL := hide hl
  rw [hw1]
  clear hw1 w1 hl Key
  cases bn with
  | false =>
    go_wp2_with fail
    go_ret
    exact ⟨⟨_, rfl, ⟨fun h => by simp at h, fun h => absurd ((unhide HR).1 h).1 (by simp)⟩⟩, unhide HB1 _⟩
  | true =>
    cases bt with
    | false =>
      cases bd with
      | false =>
        go_wp2_with fail
        go_ret
        exact ⟨⟨_, rfl, ⟨fun h => by simp at h, fun h => absurd ((unhide HT).2 ((unhide HR).1 h).2.1) (by simp)⟩⟩, unhide HB1 _⟩
      | true =>
        go_wp2_with fail
        go_ret
        exact ⟨⟨_, rfl, ⟨fun h => by simp at h, fun h => absurd ((unhide HT).2 ((unhide HR).1 h).2.1) (by simp)⟩⟩, unhide HB1 _⟩
    | true =>
      have hty := (unhide HT).1 (by simp)
      have hD := unhide HD hty.1
      have HD2 := hide hD
      have HTy := hide hty
      clear hD hty HD
      cases bd with
      | false =>
        go_wp2_with fail
        go_ret
        exact ⟨⟨_, rfl, ⟨fun h => by simp at h, fun h => absurd ((unhide HD2).2 ((unhide HR).1 h).2.2.2.2) (by simp)⟩⟩, unhide HB1 _⟩
      | true =>
        cases bc with
        | false =>
          go_wp2_with fail
          go_ret
          exact ⟨⟨_, rfl, ⟨fun h => by simp at h, fun h => absurd ((unhide HC).2 ((unhide HR).1 h).2.2.1) (by simp)⟩⟩, unhide HB1 _⟩
        | true =>
          go_wp2_with fail
          go_ret
          refine ⟨⟨_, rfl, ?_⟩, unhide HB1 _⟩
          rw [unhide HL, unhide HR]
          exact ⟨fun h => ⟨by simp, unhide HTy, (unhide HC).1 (by simp), h, (unhide HD2).1 (by simp)⟩, fun h => h.2.2.2.1⟩

set_option maxRecDepth 100000 in
set_option maxHeartbeats 1000000 in
theorem misplacedI_any (l : List RI) (x : RI) (part : Nat) (a : Option Addr) (c N : Nat) (w : World) (hrow : RowAt w N a (rcI l)) (hN : N ≤ w.heap.size) (hl : l.length ≤ 65535) :
    Calls Tryz.prog 46 #[.slice a l.length c, .agg #[.string x.name, .int .i64 x.ty, .int .i64 x.cl, .int .i64 x.ttl, .string x.data], .int .i64 part] w fun e w' => BoolIs (misI l x part) e ∧ Below w.heap.size w w' := by
  have hB1 : ∀ o, Below w.heap.size w (w.alloc o) := fun o => (Below.refl _ _).alloc (Nat.le_refl _) _
  have HB1 := hide hB1
  clear hB1
  by_cases d : x.ty = 41
  · have d' : (x.ty != 41) = false := by simp [d]
    have hM : misI l x part ↔ ((∃ y, y ∈ l ∧ y.ty = 41) ∨ part ≠ 2 ∨ x.name ≠ ⟨#[0]⟩) := ⟨fun h => h.2, fun h => ⟨d, h⟩⟩
    have HM := hide hM
    have HRow := hide (fun W (hb : Below N w W) => hrow.below hb)
    clear d hM hrow
    generalize misI l x part = M at *
    go_enter Tryz.func46, Tryz.ntmps46
    go_wp2_with fail
    go_loop [7] (fun i => ∃ j : Nat, j ≤ l.length ∧ i = .int .i64 j ∧ Hid (∀ k (h : k < l.length), k < j → l[k].ty ≠ 41)) (fun i => l.length - (intOf i).toNat)
    case atStart => exact ⟨0, Nat.zero_le _, rfl, fun k _ h => by omega⟩
    case round =>
      obtain ⟨j, hj, rfl, hno⟩ := hrel
      by_cases c1 : j < l.length
      · obtain ⟨b, o, rfl, hb, x0, x1, x2, x3, x4⟩ := row_r (unhide HRow w (Below.refl _ _)) j c1
        clear x0 x2 x3 x4
        have x1 : ∀ B, (w.alloc B).cell? ⟨b, o + j * 5 + 1, none⟩ = some (.int .i64 l[j].ty) := fun B => ((unhide HB1 B).cell (p := ⟨b, o + j * 5 + 1, none⟩) (by show b < w.heap.size; omega)).trans x1
        generalize hty : l[j].ty = ty at x1
        by_cases c2 : ty = 41
        · have c2' : (ty == 41) = true := by rw [beq_iff_eq]; omega
          have hany : ∃ y, y ∈ l ∧ y.ty = 41 := ⟨l[j], List.getElem_mem c1, by rw [hty, c2]⟩
          have HA := hide hany
          clear hany c2 hty
          go_wp2_with fail
          go_ret
          exact ⟨⟨_, rfl, ⟨fun _ => (unhide HM).2 (.inl (unhide HA)), fun _ => rfl⟩⟩, unhide HB1 _⟩
        · have c2' : (ty == 41) = false := beq_eq_false_iff_ne.2 (by omega)
          have HT := hide hty
          have HC := hide c2
          clear hty c2
          go_wp2_with fail
          go_round
          case rel => exact ⟨j + 1, by omega, by go_num, fun k hk hlt => by
            by_cases hkj : k = j
            · subst hkj; rw [unhide HT]; exact unhide HC
            · exact unhide hno k hk (by omega)⟩
          case measure => simp [intOf]; omega
      · have hany : ¬ ∃ y, y ∈ l ∧ y.ty = 41 := by
          intro ⟨y, hy, hy2⟩
          obtain ⟨k, hk, rfl⟩ := List.getElem_of_mem hy
          exact unhide hno k hk (by omega) hy2
        have HA := hide hany
        clear hany
        have HB := hide (root_eqb x.name)
        by_cases c3 : part = 2
        · subst c3
          go_wp2_with fail
          go_ret
          refine ⟨⟨_, rfl, ?_⟩, unhide HB1 _⟩
          rw [unhide HM, unhide HB]
          simp [unhide HA]
        · have c3' : ((part : Int) != 2) = true := by rw [bne_iff_ne]; omega
          have HC := hide c3
          clear c3
          go_wp2_with fail
          go_ret
          exact ⟨⟨_, rfl, ⟨fun _ => (unhide HM).2 (.inr (.inl (unhide HC))), fun _ => rfl⟩⟩, unhide HB1 _⟩
  · have d' : (x.ty != 41) = true := by rw [bne_iff_ne]; exact d
    have HM : Hid (¬ misI l x part) := fun h => d h.1
    clear d hrow
    go_enter Tryz.func46, Tryz.ntmps46
    go_wp2_with fail
    go_ret
    exact ⟨⟨_, rfl, ⟨fun h => by simp at h, fun h => absurd h (unhide HM)⟩⟩, unhide HB1 _⟩

end Go.Proofs.YtdhobdmhnocbgaaGreat

namespace Go.Proofs.YtdhobdmhnocbgaaGreat
open Go.RowKit Zr

theorem below_drew {B : Nat} {a w : World} (h : Below B a w) : Below B a w.drew := ⟨h.os, h.tape, h.output, h.size, h.block⟩

theorem rowAt_take {w : World} {N : Nat} {a : Option Addr} {l : List RI} (h : RowAt w N a (rcI l)) (j : Nat) : RowAt w N a (rcI (l.take j)) := by
  intro hx
  have hp : ∀ (k : Nat) (u : Value), (rcI (l.take j))[k]? = some u → (rcI l)[k]? = some u := by
    intro k u hu
    have e : rcI l = rcI (l.take j) ++ rcI (l.drop j) := by unfold rcI; rw [← List.flatMap_append, List.take_append_drop]
    rw [e, List.getElem?_append_left (List.getElem?_eq_some_iff.1 hu).1]
    exact hu
  have hne : rcI l ≠ [] := fun e => by
    cases hh : rcI (l.take j) with
    | nil => exact hx hh
    | cons u r =>
      have := hp 0 u (by rw [hh]; rfl)
      rw [e] at this
      simp at this
  obtain ⟨b, o, h1, h2, h3⟩ := h hne
  exact ⟨b, o, h1, h2, fun k u hu => h3 k u (hp k u hu)⟩

set_option maxRecDepth 100000 in
set_option maxHeartbeats 2000000 in
theorem wellPart_any (l : List RI) (part : Nat) (a : Option Addr) (c N : Nat) (w : World) (hrow : RowAt w N a (rcI l)) (hN : N ≤ w.heap.size) (hz : RSized l) (hc : l.length ≤ c) :
    Calls Tryz.prog 87 #[.slice a l.length c, .int .i64 part] w fun e w' => BoolIs (partOk l part) e ∧ Below w.heap.size w w' := by
  have HRow := hide hrow
  have HZ := hide hz
  clear hrow hz
  by_cases cl : 65535 < l.length
  · go_enter Tryz.func87, Tryz.ntmps87
    go_wp2_with fail
    go_ret
    exact ⟨⟨_, rfl, ⟨fun h => by simp at h, fun h => absurd h.1 (by omega)⟩⟩, Below.refl _ _⟩
  · go_enter Tryz.func87, Tryz.ntmps87
    go_wp2_with fail
    go_loopw [5] (fun i w' => ∃ (j : Nat), j ≤ l.length ∧ i = .int .i64 j ∧ Hid (Below w.heap.size w w') ∧ Hid (∀ k (h : k < l.length), k < j → recOk l[k] ∧ ¬ misI (l.take k) l[k] part)) (fun i _ => l.length - (intOf i).toNat)
    case atStart => exact ⟨0, Nat.zero_le _, rfl, Below.refl _ _, fun k _ hk => by omega⟩
    case round =>
      obtain ⟨j, hj, rfl, hB, hq⟩ := hrel
      by_cases cj : j < l.length
      · obtain ⟨b, o, rfl, hb, x0, x1, x2, x3, x4⟩ := row_r ((unhide HRow).below ((unhide hB).mono hN)) j cj
        have hsz := (unhide HZ j cj).1
        have HNo : Hid (¬ (recOk l[j] ∧ ¬ misI (l.take j) l[j] part) → ¬ partOk l part) := fun h1 h2 => h1 (h2.2 j cj)
        have HYes : Hid (recOk l[j] ∧ ¬ misI (l.take j) l[j] part → ∀ k (h : k < l.length), k < j + 1 → recOk l[k] ∧ ¬ misI (l.take k) l[k] part) := fun h1 k hk hkj => by
          by_cases e : k = j
          · subst e; exact h1
          · exact unhide hq k hk (by omega)
        have key := fun w => wellRecord_any l[j] w hsz
        have key2 : ∀ W, Below N w W → N ≤ W.heap.size → ∀ c, Calls Tryz.prog 46 #[.slice (some ⟨b, o, none⟩) j c, .agg #[.string l[j].name, .int .i64 l[j].ty, .int .i64 l[j].cl, .int .i64 l[j].ttl, .string l[j].data], .int .i64 part] W fun e w' => BoolIs (misI (l.take j) l[j] part) e ∧ Below W.heap.size W w' := by
          intro W hb hs c
          have h1 := misplacedI_any (l.take j) l[j] part (some ⟨b, o, none⟩) c N W (rowAt_take ((unhide HRow).below hb) j) hs (by rw [List.length_take]; omega)
          have e1 : (l.take j).length = j := by rw [List.length_take]; omega
          rw [e1] at h1
          exact h1
        unfold rValI at key
        have Key := hide key
        have Key2 := hide key2
        clear key key2
        generalize misI (l.take j) l[j] part = M at *
        generalize recOk l[j] = OK at *
        generalize l[j] = x at *
        obtain ⟨nm, ty, kl, ttl, dt⟩ := x
        simp only at *
        have hsB := (unhide hB).size
        go_wp2_with fail
        refine (unhide Key _).mono ?_
        rintro e w1 ⟨⟨v, rfl, hv⟩, hb1⟩
        have hbb := (unhide hB).trans (hb1.mono (unhide hB).size)
        have y0 := (hb1.cell (p := ⟨b, o + j * 5, none⟩) (by show b < _; omega)).trans x0
        have y1 := (hb1.cell (p := ⟨b, o + j * 5 + 1, none⟩) (by show b < _; omega)).trans x1
        have y2 := (hb1.cell (p := ⟨b, o + j * 5 + 2, none⟩) (by show b < _; omega)).trans x2
        have y3 := (hb1.cell (p := ⟨b, o + j * 5 + 3, none⟩) (by show b < _; omega)).trans x3
        have y4 := (hb1.cell (p := ⟨b, o + j * 5 + 4, none⟩) (by show b < _; omega)).trans x4
        have hs1 := hbb.size
        have HV := hide hv
        have HBB := hide hbb
        clear hv x0 x1 x2 x3 x4 hbb Key hb1
        cases v with
        | false =>
          go_wp2_with fail
          go_ret
          exact ⟨⟨_, rfl, ⟨fun h => by simp at h, fun h => absurd h (unhide HNo fun h2 => absurd ((unhide HV).2 h2.1) (by simp))⟩⟩, unhide HBB⟩
        | true =>
          have hi1 : (0 : Int) ≤ (j : Int) := by omega
          have hi2 : (j : Int) ≤ (c : Int) := by omega
          have hi3 : (j : Int) < (l.length : Int) := by omega
          go_wp2_with fail
          go_cut [5, 7] (fun i v w' => i = .int .i64 j ∧ ∃ b, v = .bool b ∧ Hid (b = true ↔ M) ∧ Hid (Below w.heap.size w w'))
          case first =>
            go_region_held3 (fun w' => w'.cell? ⟨b, o + j * 5, none⟩ = some (.string nm) ∧ w'.cell? ⟨b, o + j * 5 + 1, none⟩ = some (.int .i64 ty) ∧ w'.cell? ⟨b, o + j * 5 + 2, none⟩ = some (.int .i64 kl) ∧ w'.cell? ⟨b, o + j * 5 + 3, none⟩ = some (.int .i64 ttl) ∧ w'.cell? ⟨b, o + j * 5 + 4, none⟩ = some (.string dt)) (go_keep)
              (first | (go_at_call 46; refine (unhide Key2 _ (below_drew ((unhide HBB).mono hN)) (Nat.le_trans hN hs1) _).mono ?_; rintro e w2 ⟨⟨v, rfl, hv⟩, hb2⟩; have z0 : w2.cell? ⟨b, o + j * 5, none⟩ = some (.string nm) := (hb2.cell (p := ⟨b, o + j * 5, none⟩) (show b < w1.heap.size by omega)).trans y0; have z1 : w2.cell? ⟨b, o + j * 5 + 1, none⟩ = some (.int .i64 ty) := (hb2.cell (p := ⟨b, o + j * 5 + 1, none⟩) (show b < w1.heap.size by omega)).trans y1; have z2 : w2.cell? ⟨b, o + j * 5 + 2, none⟩ = some (.int .i64 kl) := (hb2.cell (p := ⟨b, o + j * 5 + 2, none⟩) (show b < w1.heap.size by omega)).trans y2; have z3 : w2.cell? ⟨b, o + j * 5 + 3, none⟩ = some (.int .i64 ttl) := (hb2.cell (p := ⟨b, o + j * 5 + 3, none⟩) (show b < w1.heap.size by omega)).trans y3; have z4 : w2.cell? ⟨b, o + j * 5 + 4, none⟩ = some (.string dt) := (hb2.cell (p := ⟨b, o + j * 5 + 4, none⟩) (show b < w1.heap.size by omega)).trans y4))
            all_goals go_wp2_with fail
            all_goals go_meet
            all_goals
              have hb3 := below_undrew hb2
              exact ⟨rfl, _, rfl, hv, (unhide HBB).trans (hb3.mono hs1)⟩
          case rest =>
            obtain ⟨rfl, v, rfl, hv, hB3⟩ := hcut
            cases v with
            | true =>
              go_wp2_with fail
              go_ret
              exact ⟨⟨_, rfl, ⟨fun h => by simp at h, fun h => absurd h (unhide HNo fun h2 => h2.2 ((unhide hv).1 (by simp)))⟩⟩, unhide hB3⟩
            | false =>
              have hyes := unhide HYes ⟨(unhide HV).1 (by simp), fun h => absurd ((unhide hv).2 h) (by simp)⟩
              have HY := hide hyes
              clear hyes
              go_wp2_with fail
              go_roundw
              case rel => exact ⟨j + 1, by omega, by go_num, hB3, HY⟩
              case measure => simp [intOf]; omega
      · go_wp2_with fail
        go_ret
        exact ⟨⟨_, rfl, ⟨fun _ => ⟨by omega, fun k hk => unhide hq k hk (by omega)⟩, fun _ => rfl⟩⟩, unhide hB⟩

set_option maxRecDepth 100000 in
set_option maxHeartbeats 2000000 in
theorem well_any (m : MI) (v : Value) (N : Nat) (w : World) (h : MsgAt w N v m) (hN : N ≤ w.heap.size) :
    Calls Tryz.prog 47 #[v] w fun e w' => BoolIs (msgOk m) e ∧ Below w.heap.size w w' := by
  obtain ⟨a1, c1, a2, c2, a3, c3, a4, c4, rfl, r1, r2, r3, r4, z1, z2, z3, z4, k1, k2, k3, k4⟩ := h
  have HOk : Hid (msgOk m ↔ (0 ≤ m.id ∧ m.id ≤ 65535) ∧ (0 ≤ m.flags ∧ m.flags ≤ 65535) ∧ (m.q.length ≤ 65535 ∧ ∀ i (h : i < m.q.length), queOk m.q[i]) ∧ partOk m.a 0 ∧ partOk m.u 1 ∧ partOk m.x 2) := Iff.rfl
  generalize msgOk m = ok at *
  obtain ⟨id, fl, q, a, u, x⟩ := m
  simp only at r1 r2 r3 r4 z1 z2 z3 z4 k1 k2 k3 k4 HOk ⊢
  have key2 := fun W (hb : Below N w W) (hs : N ≤ W.heap.size) => wellPart_any a 0 a2 c2 N W (r2.below hb) hs z2 k2
  have key3 := fun W (hb : Below N w W) (hs : N ≤ W.heap.size) => wellPart_any u 1 a3 c3 N W (r3.below hb) hs z3 k3
  have key4 := fun W (hb : Below N w W) (hs : N ≤ W.heap.size) => wellPart_any x 2 a4 c4 N W (r4.below hb) hs z4 k4
  have K2 := hide key2
  have K3 := hide key3
  have K4 := hide key4
  have R1 := hide (fun W (hb : Below N w W) => r1.below hb)
  have Z1 := hide z1
  clear key2 key3 key4 r1 r2 r3 r4 z1 z2 z3 z4 k1 k2 k3 k4
  generalize partOk a 0 = pa at *
  generalize partOk u 1 = pu at *
  generalize partOk x 2 = px at *
  generalize hB0 : (w.alloc (.cells #[.int .i64 id, .int .i64 fl, .slice a1 q.length c1, .slice a2 a.length c2, .slice a3 u.length c3, .slice a4 x.length c4] 32)) = W0
  have hW0 : W0.heap[w.heap.size]? = some (.cells #[.int .i64 id, .int .i64 fl, .slice a1 q.length c1, .slice a2 a.length c2, .slice a3 u.length c3, .slice a4 x.length c4] 32 (0, 0)) := by rw [← hB0]; exact heap_alloc_new _ _
  have hB1 : Below w.heap.size w W0 := by rw [← hB0]; exact (Below.refl _ _).alloc (Nat.le_refl _) _
  have hz0 : w.heap.size + 1 = W0.heap.size := by rw [← hB0]; simp
  have HB0 := hide hB0
  clear hB0
  go_enter Tryz.func47, Tryz.ntmps47
  go_wp2_with fail
  rw [unhide HB0]
  clear HB0
  obtain ⟨⟨b0, b1, b2, b3, b4, b5⟩, y0, y1, y2, y3, y4, y5⟩ := cells6 hW0
  have HW0 := hide hW0
  clear hW0
  refine (refWord_any id 65535 _).mono ?_
  rintro e w2 ⟨⟨v1, rfl, hv⟩, hw2⟩
  have V1 := hide hv
  rw [hw2]
  clear hv hw2 w2
  go_wp2_with fail
  refine (refWord_any fl 65535 _).mono ?_
  rintro e w2 ⟨⟨v2, rfl, hv⟩, hw2⟩
  have V2 := hide hv
  rw [hw2]
  clear hv hw2 w2
  cases v1 with
  | false =>
    go_wp2_with fail
    go_ret
    exact ⟨⟨_, rfl, ⟨fun h => by simp at h, fun h => absurd ((unhide V1).2 ((unhide HOk).1 h).1) (by simp)⟩⟩, hB1⟩
  | true =>
  cases v2 with
  | false =>
    go_wp2_with fail
    go_ret
    exact ⟨⟨_, rfl, ⟨fun h => by simp at h, fun h => absurd ((unhide V2).2 ((unhide HOk).1 h).2.1) (by simp)⟩⟩, hB1⟩
  | true =>
  by_cases cq : 65535 < q.length
  · go_wp2_with fail
    go_ret
    exact ⟨⟨_, rfl, ⟨fun h => by simp at h, fun h => absurd ((unhide HOk).1 h).2.2.1.1 (by omega)⟩⟩, hB1⟩
  · go_wp2_with fail
    go_loopw [5] (fun i w' => ∃ (j : Nat), j ≤ q.length ∧ i = .int .i64 j ∧ Hid (w'.heap[w.heap.size]? = some (.cells #[.int .i64 id, .int .i64 fl, .slice a1 q.length c1, .slice a2 a.length c2, .slice a3 u.length c3, .slice a4 x.length c4] 32 (0, 0))) ∧ Hid (Below w.heap.size w w') ∧ Hid (∀ k (h : k < q.length), k < j → queOk q[k])) (fun i _ => q.length - (intOf i).toNat)
    case atStart => exact ⟨0, Nat.zero_le _, rfl, HW0, hB1, fun k _ hk => by omega⟩
    case round =>
      obtain ⟨j, hj, rfl, hX, hB, hq⟩ := hrel
      clear b0 b1 b2 b3 b4 b5 y0 y1 y2 y3 y4 y5
      obtain ⟨⟨b0, b1, b2, b3, b4, b5⟩, y0, y1, y2, y3, y4, y5⟩ := cells6 (unhide hX)
      have hlt := blk_lt (unhide hX)
      by_cases cj : j < q.length
      · obtain ⟨b, o, rfl, hb, x0, x1, x2⟩ := row_q (unhide R1 _ ((unhide hB).mono hN)) j cj
        have hsz := unhide Z1 j cj
        have HQ : Hid (queOk q[j] ↔ wholeB q[j].name = true ∧ (0 ≤ q[j].ty ∧ q[j].ty ≤ 65535) ∧ (0 ≤ q[j].cl ∧ q[j].cl ≤ 65535)) := Iff.rfl
        have HNo : Hid (¬ queOk q[j] → ¬ ok) := fun h1 h2 => h1 (((unhide HOk).1 h2).2.2.1.2 j cj)
        have HYes : Hid (queOk q[j] → ∀ k (h : k < q.length), k < j + 1 → queOk q[k]) := fun h1 k hk hkj => by
          by_cases e : k = j
          · subst e; exact h1
          · exact unhide hq k hk (by omega)
        have key := fun w => whole_any q[j].name w hsz
        have Key := hide key
        clear key
        generalize queOk q[j] = Q at *
        generalize q[j].name = nm at *
        generalize q[j].ty = ty at *
        generalize q[j].cl = kl at *
        generalize wholeB nm = bn at *
        have hB2 := (unhide hB).trans (((Below.refl wr.heap.size wr).alloc (Nat.le_refl _) (.cells #[.string nm, .int .i64 ty, .int .i64 kl] 60)).mono (unhide hB).size)
        have HB2 := hide hB2
        have HX2 := hide ((Below.heap_alloc wr (.cells #[.string nm, .int .i64 ty, .int .i64 kl] 60) w.heap.size hlt).trans (unhide hX))
        clear hB2
        go_wp2_with fail
        refine (unhide Key _).mono ?_
        rintro e w2 ⟨rfl, hw2⟩
        rw [hw2]
        clear hw2 w2
        go_wp2_with fail
        refine (refWord_any ty 65535 _).mono ?_
        rintro e w2 ⟨⟨v3, rfl, hv⟩, hw2⟩
        have V3 := hide hv
        rw [hw2]
        clear hv hw2 w2
        go_wp2_with fail
        refine (refWord_any kl 65535 _).mono ?_
        rintro e w2 ⟨⟨v4, rfl, hv⟩, hw2⟩
        have V4 := hide hv
        rw [hw2]
        clear hv hw2 w2 x0 x1 x2 Key
        cases bn with
        | false =>
          go_wp2_with fail
          go_ret
          exact ⟨⟨_, rfl, ⟨fun h => by simp at h, fun h => absurd h (unhide HNo fun h2 => absurd ((unhide HQ).1 h2).1 (by simp))⟩⟩, unhide HB2⟩
        | true =>
          cases v3 with
          | false =>
            go_wp2_with fail
            go_ret
            exact ⟨⟨_, rfl, ⟨fun h => by simp at h, fun h => absurd h (unhide HNo fun h2 => absurd ((unhide V3).2 ((unhide HQ).1 h2).2.1) (by simp))⟩⟩, unhide HB2⟩
          | true =>
            cases v4 with
            | false =>
              go_wp2_with fail
              go_ret
              exact ⟨⟨_, rfl, ⟨fun h => by simp at h, fun h => absurd h (unhide HNo fun h2 => absurd ((unhide V4).2 ((unhide HQ).1 h2).2.2) (by simp))⟩⟩, unhide HB2⟩
            | true =>
              have hyes := unhide HYes ((unhide HQ).2 ⟨by simp, (unhide V3).1 (by simp), (unhide V4).1 (by simp)⟩)
              have HY := hide hyes
              clear hyes
              go_wp2_with fail
              go_roundw
              case rel => exact ⟨j + 1, by omega, by go_num, HX2, HB2, HY⟩
              case measure => simp [intOf]; omega
      · have hqs : q.length ≤ 65535 ∧ ∀ i (h : i < q.length), queOk q[i] := ⟨by omega, fun k hk => unhide hq k hk (by omega)⟩
        have HQs := hide hqs
        clear hqs
        have hsB := (unhide hB).size
        go_wp2_with fail
        refine (unhide K2 _ ((unhide hB).mono hN) (by omega)).mono ?_
        rintro e w3 ⟨⟨v5, rfl, hv⟩, hb3⟩
        have V5 := hide hv
        have hB3 := (unhide hB).trans (hb3.mono (unhide hB).size)
        have HX3 := hide ((hb3.block w.heap.size hlt).trans (unhide hX))
        clear hv b0 b1 b2 b3 b4 b5 y0 y1 y2 y3 y4 y5
        obtain ⟨⟨b0, b1, b2, b3, b4, b5⟩, y0, y1, y2, y3, y4, y5⟩ := cells6 (unhide HX3)
        have hs3 := hB3.size
        have hl3 := blk_lt (unhide HX3)
        go_wp2_with fail
        refine (unhide K3 _ (hB3.mono hN) (by omega)).mono ?_
        rintro e w4 ⟨⟨v6, rfl, hv⟩, hb4⟩
        have V6 := hide hv
        have hB4 := hB3.trans (hb4.mono hB3.size)
        have HX4 := hide ((hb4.block w.heap.size hl3).trans (unhide HX3))
        clear hv b0 b1 b2 b3 b4 b5 y0 y1 y2 y3 y4 y5
        obtain ⟨⟨b0, b1, b2, b3, b4, b5⟩, y0, y1, y2, y3, y4, y5⟩ := cells6 (unhide HX4)
        have hs4 := hB4.size
        go_wp2_with fail
        refine (unhide K4 _ (hB4.mono hN) (by omega)).mono ?_
        rintro e w5 ⟨⟨v7, rfl, hv⟩, hb5⟩
        have V7 := hide hv
        have hB5 := hB4.trans (hb5.mono hB4.size)
        clear hv b0 b1 b2 b3 b4 b5 y0 y1 y2 y3 y4 y5
        cases v5 with
        | false =>
          go_wp2_with fail
          go_ret
          exact ⟨⟨_, rfl, ⟨fun h => by simp at h, fun h => absurd ((unhide V5).2 ((unhide HOk).1 h).2.2.2.1) (by simp)⟩⟩, hB5⟩
        | true =>
          cases v6 with
          | false =>
            go_wp2_with fail
            go_ret
            exact ⟨⟨_, rfl, ⟨fun h => by simp at h, fun h => absurd ((unhide V6).2 ((unhide HOk).1 h).2.2.2.2.1) (by simp)⟩⟩, hB5⟩
          | true =>
            go_wp2_with fail
            go_ret
            refine ⟨⟨_, rfl, ?_⟩, hB5⟩
            rw [unhide V7, unhide HOk]
            exact ⟨fun h => ⟨(unhide V1).1 (by simp), (unhide V2).1 (by simp), unhide HQs, (unhide V5).1 (by simp), (unhide V6).1 (by simp), h⟩, fun h => h.2.2.2.2.2⟩

end Go.Proofs.YtdhobdmhnocbgaaGreat
