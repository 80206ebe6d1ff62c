/-
  Walks over the document's own answer: bytes, numbers, names.
-/
import Derived.Test.YtdhobdmhnocbgaaGreatSBase
import Derived.Test.YtdhobdmhnocbgaaGreatSRecs
namespace Go.Proofs.YtdhobdmhnocbgaaGreat
open Go.RowKit Zr

set_option maxHeartbeats 400000 in
theorem byteAt_yes (b : ByteArray) (k : Int) (w : World) (_hb : b.size ≤ 281474976710656) (h0 : 0 ≤ k) (h1 : k < b.size) :
    Calls Tryz.prog 146 #[.string b, .int .i64 k] w fun e w' => e = .returned (.int .i64 (bt b k.toNat)) ∧ w' = w := by
  obtain ⟨k, rfl⟩ := Int.eq_ofNat_of_zero_le h0
  rw [Int.toNat_natCast]
  have hg := bt_get b k (by omega)
  have hl := bt_lt b k
  go_enter Tryz.func146, Tryz.ntmps146
  go_wp2_with fail
  go_ret
  exact ⟨rfl, rfl⟩

set_option maxHeartbeats 400000 in
theorem byteAt_no (b : ByteArray) (k : Int) (w : World) (_hb : b.size ≤ 281474976710656) (h0 : 0 ≤ k) (h1 : (b.size : Int) ≤ k) :
    Calls Tryz.prog 146 #[.string b, .int .i64 k] w fun e w' => e = .returned (.int .i64 (-1)) ∧ w' = w := by
  go_enter Tryz.func146, Tryz.ntmps146
  go_wp2_with fail
  go_ret
  exact ⟨rfl, rfl⟩

set_option maxHeartbeats 400000 in
theorem refNumber_no (b : ByteArray) (k n : Int) (w : World) (hb : b.size ≤ 65535) (h0 : 0 ≤ k) (h0' : k ≤ 4294967296) (hn : 0 ≤ n) (hn4 : n ≤ 4) (h : (b.size : Int) < k + n) :
    Calls Tryz.prog 82 #[.string b, .int .i64 k, .int .i64 n] w fun e w' => e = .returned (.tuple #[.int .i64 0, .bool false]) ∧ w' = w := by
  go_enter Tryz.func82, Tryz.ntmps82
  go_wp2_with fail
  go_ret2
  exact ⟨rfl, rfl⟩

set_option maxHeartbeats 400000 in
theorem refNumber_yes (b : ByteArray) (k n : Int) (w : World) (hb : b.size ≤ 65535) (h0 : 0 ≤ k) (hn : 0 ≤ n) (hn4 : n ≤ 4) (h : k + n ≤ b.size) :
    Calls Tryz.prog 82 #[.string b, .int .i64 k, .int .i64 n] w fun e w' => e = .returned (.tuple #[.int .i64 (num b k.toNat n.toNat), .bool true]) ∧ w' = w := by
  obtain ⟨k, rfl⟩ := Int.eq_ofNat_of_zero_le h0
  obtain ⟨n, rfl⟩ := Int.eq_ofNat_of_zero_le hn
  rw [Int.toNat_natCast, Int.toNat_natCast]
  go_enter Tryz.func82, Tryz.ntmps82
  go_wp2_with fail
  go_loop [8, 9] (fun v i => ∃ j : Nat, j ≤ n ∧ i = .int .i64 j ∧ v = .int .i64 (num b k j)) (fun _ i => n - (intOf i).toNat)
  case atStart => exact ⟨0, Nat.zero_le _, rfl, rfl⟩
  case round =>
    obtain ⟨j, hj, rfl, rfl⟩ := hrel
    have hl := num_lt4 b k j (by omega)
    by_cases c : j < n
    · have hb1 := bt_get b (k + j) (by omega)
      have hb2 := bt_lt b (k + j)
      go_wp2_with fail
      go_round
      case rel => exact ⟨j + 1, by omega, by go_num, by simp only [num]; congr 1⟩
      case measure => simp [intOf]; omega
    · have hj' : j = n := by omega
      subst hj'
      go_wp2_with fail
      go_ret2
      exact ⟨rfl, rfl⟩

theorem head_yes (b : ByteArray) (k : Int) (w : World) (hb : b.size ≤ 65535) (h0 : 0 ≤ k) (h5 : k ≤ 5) (h : 12 ≤ b.size) :
    Calls Tryz.prog 43 #[.string b, .int .i64 k] w fun e w' => e = .returned (.tuple #[.int .i64 (num b (2 * k.toNat) 2), .bool true]) ∧ w' = w := by
  obtain ⟨k, rfl⟩ := Int.eq_ofNat_of_zero_le h0
  rw [Int.toNat_natCast]
  go_enter Tryz.func43, Tryz.ntmps43
  go_wp2_with fail
  refine (refNumber_yes b (2 * k) 2 _ hb (by omega) (by omega) (by omega) (by omega)).mono ?_
  rw [show (2 * (k : Int)).toNat = 2 * k from by omega]
  rintro e w' ⟨rfl, rfl⟩
  go_wp2_with fail
  go_ret2
  exact ⟨rfl, rfl⟩

/-- What the name's recursion gives. -/
def RestPost (res : Except Int (ByteArray × Nat)) (e : Ending) : Prop :=
  match res with
  | .ok (s, t) => e = .returned (.tuple #[.string s, .int .i64 t, .int .i64 0])
  | .error x => x ≠ 0 ∧ ∃ (s : ByteArray) (t : Int), e = .returned (.tuple #[.string s, .int .i64 t, .int .i64 x])

set_option maxRecDepth 100000 in
set_option maxHeartbeats 4000000 in
theorem rest_any (b : ByteArray) (hb : b.size ≤ 281474976710656) : ∀ (f : Nat) (k run front : Int) (w : World), 0 ≤ k → k ≤ 281474976710956 → 0 ≤ run → run ≤ 281474976710956 → 0 ≤ front → front ≤ 254 → enough b k.toNat run.toNat < f →
    Calls Tryz.prog 118 #[.string b, .int .i64 k, .int .i64 run, .int .i64 front] w fun e w' => RestPost (nmAt b k.toNat run.toNat front.toNat) e ∧ w' = w := by
  intro f
  induction f with
  | zero => intro k run front w _ _ _ _ _ _ h; omega
  | succ f ih =>
    intro k run front w hk hk1 hr hr1 hf hf1 hen
    have IH := hide ih
    clear ih
    obtain ⟨k, rfl⟩ := Int.eq_ofNat_of_zero_le hk
    obtain ⟨run, rfl⟩ := Int.eq_ofNat_of_zero_le hr
    obtain ⟨front, rfl⟩ := Int.eq_ofNat_of_zero_le hf
    simp only [Int.toNat_natCast] at hen ⊢
    have hE := nmAt_eq b k run front
    by_cases c0 : b.size ≤ k
    · rw [if_pos c0] at hE
      have HE := hide hE
      clear hE
      go_enter Tryz.func118, Tryz.ntmps118
      go_wp2_with fail
      refine (byteAt_no b k _ hb (by omega) (by omega)).mono ?_
      rintro e w' ⟨rfl, rfl⟩
      go_wp2_with fail
      go_ret3
      exact ⟨by rw [unhide HE]; exact ⟨by decide, _, _, rfl⟩, rfl⟩
    rw [if_neg c0] at hE
    have hl := bt_lt b k
    by_cases c1 : bt b k = 0
    · rw [if_pos c1] at hE
      have HE := hide hE
      clear hE
      go_enter Tryz.func118, Tryz.ntmps118
      go_wp2_with fail
      refine (byteAt_yes b k _ hb (by omega) (by omega)).mono ?_
      rw [Int.toNat_natCast]
      rintro e w' ⟨rfl, rfl⟩
      go_wp2_with fail
      go_ret3
      exact ⟨by rw [unhide HE]; rfl, rfl⟩
    rw [if_neg c1] at hE
    have n1 : ((bt b k : Int) == 0) = false := beq_eq_false_iff_ne.2 (by omega)
    by_cases c2 : 63 < bt b k
    · rw [if_pos c2] at hE
      by_cases c3 : bt b k < 192
      · rw [if_pos c3] at hE
        have HE := hide hE
        clear hE
        go_enter Tryz.func118, Tryz.ntmps118
        go_wp2_with fail
        refine (byteAt_yes b k _ hb (by omega) (by omega)).mono ?_
        rw [Int.toNat_natCast]
        rintro e w' ⟨rfl, rfl⟩
        go_wp2_with fail
        go_ret3
        exact ⟨by rw [unhide HE]; exact ⟨by decide, _, _, rfl⟩, rfl⟩
      rw [if_neg c3] at hE
      by_cases c4 : b.size ≤ k + 1
      · rw [if_pos c4] at hE
        have HE := hide hE
        clear hE
        go_enter Tryz.func118, Tryz.ntmps118
        go_wp2_with fail
        refine (byteAt_yes b k _ hb (by omega) (by omega)).mono ?_
        rw [Int.toNat_natCast]
        rintro e w' ⟨rfl, rfl⟩
        go_wp2_with fail
        refine (byteAt_no b (k + 1) _ hb (by omega) (by omega)).mono ?_
        rintro e w' ⟨rfl, rfl⟩
        go_wp2_with fail
        go_ret3
        exact ⟨by rw [unhide HE]; exact ⟨by decide, _, _, rfl⟩, rfl⟩
      rw [if_neg c4] at hE
      have hl1 := bt_lt b (k + 1)
      have ht1 : ((k : Int) + 1).toNat = k + 1 := by omega
      by_cases c5 : run ≤ 256 * (bt b k - 192) + bt b (k + 1)
      · rw [if_pos c5] at hE
        have HE := hide hE
        clear hE
        go_enter Tryz.func118, Tryz.ntmps118
        go_wp2_with fail
        refine (byteAt_yes b k _ hb (by omega) (by omega)).mono ?_
        rw [Int.toNat_natCast]
        rintro e w' ⟨rfl, rfl⟩
        go_wp2_with fail
        refine (byteAt_yes b (k + 1) _ hb (by omega) (by omega)).mono ?_
        rw [ht1]
        rintro e w' ⟨rfl, rfl⟩
        go_wp2_with fail
        go_ret3
        exact ⟨by rw [unhide HE]; exact ⟨by decide, _, _, rfl⟩, rfl⟩
      · rw [if_neg c5] at hE
        have HE := hide hE
        clear hE
        have ht2 : (256 * ((bt b k : Int) - 192) + (bt b (k + 1) : Int)).toNat = 256 * (bt b k - 192) + bt b (k + 1) := by omega
        have hen2 := enough_ptr b k run (256 * (bt b k - 192) + bt b (k + 1)) (by omega) (by omega)
        have key : ∀ w, Calls Tryz.prog 118 #[.string b, .int .i64 (256 * ((bt b k : Int) - 192) + (bt b (k + 1) : Int)), .int .i64 (256 * ((bt b k : Int) - 192) + (bt b (k + 1) : Int)), .int .i64 front] w fun e w' => RestPost (nmAt b (256 * (bt b k - 192) + bt b (k + 1)) (256 * (bt b k - 192) + bt b (k + 1)) front) e ∧ w' = w := by
          intro w
          have := unhide IH (256 * ((bt b k : Int) - 192) + (bt b (k + 1) : Int)) (256 * ((bt b k : Int) - 192) + (bt b (k + 1) : Int)) front w (by omega) (by omega) (by omega) (by omega) (by omega) (by omega) (by rw [ht2]; omega)
          rw [ht2, Int.toNat_natCast] at this
          exact this
        have Key := hide key
        clear key hen hen2 ht2 IH
        generalize nmAt b (256 * (bt b k - 192) + bt b (k + 1)) (256 * (bt b k - 192) + bt b (k + 1)) front = x at *
        go_enter Tryz.func118, Tryz.ntmps118
        go_wp2_with fail
        refine (byteAt_yes b k _ hb (by omega) (by omega)).mono ?_
        rw [Int.toNat_natCast]
        rintro e w' ⟨rfl, rfl⟩
        go_wp2_with fail
        refine (byteAt_yes b (k + 1) _ hb (by omega) (by omega)).mono ?_
        rw [ht1]
        rintro e w' ⟨rfl, rfl⟩
        go_wp2_with fail
        refine (unhide Key _).mono ?_
        rintro e w' ⟨hp, rfl⟩
        cases x with
        | ok z =>
          obtain ⟨s, t⟩ := z
          have hp' : e = _ := hp
          subst hp'
          clear hp
          go_wp2_with fail
          go_ret3
          exact ⟨by rw [unhide HE]; rfl, rfl⟩
        | error x =>
          obtain ⟨hx, s, t, rfl⟩ := hp
          have Hx := hide hx
          clear hx
          go_wp2_with fail
          go_ret3
          exact ⟨by rw [unhide HE]; exact ⟨unhide Hx, _, _, rfl⟩, rfl⟩
    rw [if_neg c2] at hE
    by_cases c3 : b.size < k + 1 + bt b k
    · rw [if_pos c3] at hE
      have HE := hide hE
      clear hE
      go_enter Tryz.func118, Tryz.ntmps118
      go_wp2_with fail
      refine (byteAt_yes b k _ hb (by omega) (by omega)).mono ?_
      rw [Int.toNat_natCast]
      rintro e w' ⟨rfl, rfl⟩
      go_wp2_with fail
      go_ret3
      exact ⟨by rw [unhide HE]; exact ⟨by decide, _, _, rfl⟩, rfl⟩
    rw [if_neg c3] at hE
    by_cases c4 : 255 < front + 1 + bt b k + 1
    · rw [if_pos c4] at hE
      have HE := hide hE
      clear hE
      go_enter Tryz.func118, Tryz.ntmps118
      go_wp2_with fail
      refine (byteAt_yes b k _ hb (by omega) (by omega)).mono ?_
      rw [Int.toNat_natCast]
      rintro e w' ⟨rfl, rfl⟩
      go_wp2_with fail
      go_ret3
      exact ⟨by rw [unhide HE]; exact ⟨by decide, _, _, rfl⟩, rfl⟩
    rw [if_neg c4] at hE
    have HE := hide hE
    clear hE
    have ht1 : ((k : Int) + 1 + (bt b k : Int)).toNat = k + 1 + bt b k := by omega
    have ht2 : ((front : Int) + 1 + (bt b k : Int)).toNat = front + 1 + bt b k := by omega
    have hen2 := enough_label b k (bt b k) run (by omega)
    have key : ∀ w, Calls Tryz.prog 118 #[.string b, .int .i64 ((k : Int) + 1 + (bt b k : Int)), .int .i64 run, .int .i64 ((front : Int) + 1 + (bt b k : Int))] w fun e w' => RestPost (nmAt b (k + 1 + bt b k) run (front + 1 + bt b k)) e ∧ w' = w := by
      intro w
      have := unhide IH ((k : Int) + 1 + (bt b k : Int)) run ((front : Int) + 1 + (bt b k : Int)) w (by omega) (by omega) (by omega) (by omega) (by omega) (by omega) (by rw [ht1, Int.toNat_natCast]; omega)
      rw [ht1, ht2, Int.toNat_natCast] at this
      exact this
    have hbd : ∀ s t, nmAt b (k + 1 + bt b k) run (front + 1 + bt b k) = .ok (s, t) → t ≤ 281474976710656 ∧ s.size ≤ 255 := fun s t h => by
      have := nmAt_bounds b _ (k + 1 + bt b k) run (front + 1 + bt b k) (by omega) s t h
      omega
    have Key := hide key
    clear key hen hen2 ht2 IH
    generalize nmAt b (k + 1 + bt b k) run (front + 1 + bt b k) = x at *
    have Hbd := hide hbd
    clear hbd
    go_enter Tryz.func118, Tryz.ntmps118
    go_wp2_with fail
    refine (byteAt_yes b k _ hb (by omega) (by omega)).mono ?_
    rw [Int.toNat_natCast]
    rintro e w' ⟨rfl, rfl⟩
    go_wp2_with fail
    refine (unhide Key _).mono ?_
    rintro e w' ⟨hp, rfl⟩
    cases x with
    | ok z =>
      obtain ⟨s, t⟩ := z
      have hp' : e = _ := hp
      subst hp'
      clear hp
      obtain ⟨g1, g2⟩ := unhide Hbd s t rfl
      have hz : (b.extract k (k + 1 + bt b k)).size ≤ 65535 := by rw [ByteArray.size_extract]; omega
      go_wp2_with fail
      go_ret3
      refine ⟨?_, rfl⟩
      rw [unhide HE]
      show _ = _
      simp only
      congr 1
    | error x =>
      obtain ⟨hx, s, t, rfl⟩ := hp
      have hx' : (x != 0) = true := by rw [bne_iff_ne]; exact hx
      have Hx := hide hx
      clear hx
      go_wp2_with fail
      go_ret3
      exact ⟨by rw [unhide HE]; exact ⟨unhide Hx, _, _, rfl⟩, rfl⟩

end Go.Proofs.YtdhobdmhnocbgaaGreat
