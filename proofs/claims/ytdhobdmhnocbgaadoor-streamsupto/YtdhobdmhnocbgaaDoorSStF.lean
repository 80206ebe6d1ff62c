/-
  Walks: streams: the document's Frame and Cut.
-/
import Derived.Test.YtdhobdmhnocbgaaDoorSStD
import Derived.Test.YtdhobdmhnocbgaaDoorSTxA
import Derived.Test.YtdhobdmhnocbgaaDoorSRefD
import Derived.Test.YtdhobdmhnocbgaaDoorSEvA
namespace Go.Proofs.YtdhobdmhnocbgaaDoor
open Go.RowKit Zr

set_option maxRecDepth 100000 in
set_option maxHeartbeats 1000000 in
theorem refFrame_any (l : List ByteArray) (a : Option Addr) (c N : Nat) (w : World) (hrow : RowAt w N a (stC l)) (hN : N ≤ w.heap.size) (hl : l.length ≤ 33554432) (hz : heldP l ≤ 67108864) :
    Calls Tryd.prog 10 #[.slice a l.length c] w fun r w' => ∃ s e, r = .returned (.tuple #[.string s, .int .i64 e]) ∧ FrmIs l s e ∧ Below w.heap.size w w' := by
  have HRow := hide hrow
  have HZ := hide (fun j (h : j < l.length) => held_take l j h)
  have HZ2 := hide (fun j => held_take_le l j)
  clear hrow
  obtain ⟨M, hM⟩ : ∃ M, w.heap.size = M := ⟨_, rfl⟩
  rw [hM] at hN
  have HM := hide hM
  have hs0 : M ≤ w.heap.size := by omega
  clear hM
  go_enter Tryd.func10, Tryd.ntmps10
  go_wp2_with fail
  go_loopw [4, 5] (fun vs vi w' => ∃ (j : Nat) (s : ByteArray), j ≤ l.length ∧ vi = .int .i64 j ∧ vs = .string s ∧ s.size ≤ 67108864 ∧ Hid (s = frameP (l.take j)) ∧ Hid (∀ k (h : k < l.length), k < j → l[k].size ≤ 65535) ∧ Hid (Below M w w') ∧ M ≤ w'.heap.size) (fun _ vi _ => l.length - (intOf vi).toNat)
  case atStart => exact ⟨0, ⟨#[]⟩, Nat.zero_le _, rfl, rfl, Nat.zero_le _, hide rfl, hide fun k _ hk => by omega, hide (Below.refl _ _), hs0⟩
  case round =>
    obtain ⟨j, s, hj, rfl, rfl, hsz, HS, HA, HB, hs⟩ := hrel
    by_cases cj : j < l.length
    · obtain ⟨b, o, rfl, hb, x0⟩ := row_s ((unhide HRow).below ((unhide HB).mono hN)) j cj
      by_cases cx : 65535 < l[j].size
      · have HX : Hid (∃ x, x ∈ l ∧ 65535 < x.size) := hide ⟨_, List.getElem_mem cj, cx⟩
        generalize l[j] = x at *
        go_wp2_with fail
        go_ret2
        exact ⟨_, _, rfl, .inl ⟨unhide HX, rfl, rfl⟩, by rw [unhide HM]; exact unhide HB⟩
      · have HA2 : Hid (∀ k (h : k < l.length), k < j + 1 → l[k].size ≤ 65535) := hide fun k hk hkj => by
          by_cases e : k = j
          · subst e; omega
          · exact unhide HA k hk (by omega)
        have hz3 := unhide HZ j cj
        have hz4 := unhide HZ2 (j + 1)
        have hz5 : s.size = heldP (l.take j) := by rw [unhide HS, frame_size]
        have hf := frame_take l j cj
        rw [← unhide HS] at hf
        have HFT := hide hf
        have hn2 : s.size + 2 + l[j].size ≤ 67108864 := by omega
        clear hf hz3 hz4 hz5 HS HA
        generalize l[j] = x at *
        obtain ⟨z, hz⟩ : ∃ z, wd x.size = z := ⟨_, rfl⟩
        have hwz := wd_size x.size
        have Key : Hid (∀ w, Calls Tryd.prog 21 #[.int .i64 (x.size : Int), .int .i64 2] w fun e w' => e = .returned (.string z) ∧ Below w.heap.size w w') := fun w => by rw [← hz]; exact high2 _ _ w rfl (by omega)
        rw [hz] at hwz HFT
        clear hz
        have hsS : (s ++ z).size ≤ 67108864 := by rw [ByteArray.size_append]; omega
        have hsT : (s ++ z ++ x).size ≤ 67108864 := by rw [ByteArray.size_append, ByteArray.size_append]; omega
        have hadd : ∀ W : World, (Op.stringOp .add s z).run Tryd.prog W = .ok (.string (s ++ z)) W := fun W => run_string_add_sum W s z (by omega)
        have hadd2 : ∀ W : World, (Op.stringOp .add (s ++ z) x).run Tryd.prog W = .ok (.string (s ++ z ++ x)) W := fun W => run_string_add_sum W (s ++ z) x (by rw [ByteArray.size_append]; omega)
        have hbw : b < wr.heap.size := by omega
        go_wp2_with fail
        go_region_held3 (fun u => u.cell? ⟨b, o + j, none⟩ = some (.string x)) (go_keep)
          (first
            | (go_at_call 21; refine (unhide Key _).mono ?_; rintro e w1 ⟨rfl, hb1'⟩; have hb1 := below_undrew hb1'; have y0 := (hb1.cell (p := ⟨b, o + j, none⟩) (show b < wr.heap.size by omega)).trans x0; have HB1 := hide ((unhide HB).trans (hb1.mono hs)); have hs1 : M ≤ w1.heap.size := Nat.le_trans hs hb1.size))
        go_wp2_with fail
        exact ⟨⟨j + 1, s ++ z ++ x, by omega, by go_num, rfl, hsT, hide (unhide HFT).symm, HA2, HB1, hs1⟩, by simp [intOf]; omega⟩
    · have ej : j = l.length := by omega
      subst ej
      have HAll : Hid (∀ x, x ∈ l → x.size ≤ 65535) := hide fun x hx => by
        obtain ⟨k, hk, rfl⟩ := List.mem_iff_getElem.1 hx
        exact unhide HA k hk hk
      have hsl := unhide HS
      rw [List.take_length] at hsl
      have HSL := hide hsl
      clear hsl HA HS
      go_wp2_with fail
      go_ret2
      exact ⟨_, _, rfl, .inr ⟨unhide HAll, unhide HSL, rfl⟩, by rw [unhide HM]; exact unhide HB⟩

set_option maxHeartbeats 400000 in
theorem number_no (b : ByteArray) (k n : Nat) (w : World) (hb : b.size ≤ 67108864) (hk : k ≤ 67108864) (hn4 : n ≤ 4) (h : b.size < k + n) :
    Calls Tryd.prog 23 #[.string b, .int .i64 (k : Int), .int .i64 (n : Int)] w fun e w' => e = .returned (.tuple #[.int .i64 0, .bool false]) ∧ w' = w := by
  go_enter Tryd.func23, Tryd.ntmps23
  go_wp2_with fail
  go_ret2
  exact ⟨rfl, rfl⟩

set_option maxHeartbeats 400000 in
theorem number_yes (b : ByteArray) (k n : Nat) (w : World) (hb : b.size ≤ 67108864) (hn4 : n ≤ 4) (h : k + n ≤ b.size) :
    Calls Tryd.prog 23 #[.string b, .int .i64 (k : Int), .int .i64 (n : Int)] w fun e w' => e = .returned (.tuple #[.int .i64 (num b k n), .bool true]) ∧ w' = w := by
  go_enter Tryd.func23, Tryd.ntmps23
  go_wp2_with fail
  go_loop [8, 9] (fun v i => ∃ j : Nat, j ≤ n ∧ i = .int .i64 j ∧ v = .int .i64 (num b k j)) (fun _ i => n - (intOf i).toNat)
  case atStart => exact ⟨0, Nat.zero_le _, rfl, rfl⟩
  case round =>
    obtain ⟨j, hj, rfl, rfl⟩ := hrel
    have hl := num_lt4 b k j (by omega)
    by_cases c : j < n
    · have hb1 := bt_get b (k + j) (by omega)
      have hb2 := bt_lt b (k + j)
      go_wp2_with fail
      go_round
      case rel => exact ⟨j + 1, by omega, by go_num, by simp only [num]; congr 1⟩
      case measure => simp [intOf]; omega
    · have hj' : j = n := by omega
      subst hj'
      go_wp2_with fail
      go_ret2
      exact ⟨rfl, rfl⟩

theorem num2_lt (s : ByteArray) (k : Nat) : num s k 2 < 65536 := by
  have h : num s k 2 = 256 * bt s k + bt s (k + 1) := by
    show 256 * (256 * 0 + bt s (k + 0)) + bt s (k + 1) = _
    rw [Nat.mul_zero, Nat.zero_add, Nat.add_zero]
  have := bt_lt s k
  have := bt_lt s (k + 1)
  omega

set_option maxRecDepth 100000 in
set_option maxHeartbeats 1000000 in
theorem refCut_any (s : ByteArray) (w : World) (hz : s.size ≤ 67108864) :
    Calls Tryd.prog 16 #[.string s] w fun r w' => ∃ (a : Option Addr) (c : Nat), r = .returned (.tuple #[.slice a (cutP s 0).1.length c, .int .i64 ((cutP s 0).2 : Nat)]) ∧ w'.ownsRow w.heap.size 9 1 (.slice a (cutP s 0).1.length c) (cutP s 0).1.length (stC (cutP s 0).1) ∧ Below w.heap.size w w' := by
  obtain ⟨i0, hi, hz0, hz1, hz2⟩ := info_parts Tryd.info9
  have Hi := hide hi
  have Hz0 := hide hz0
  have Hz1 := hide hz1
  have Hz2 := hide hz2
  clear hi hz0 hz1 hz2
  obtain ⟨M, hM⟩ : ∃ M, w.heap.size = M := ⟨_, rfl⟩
  rw [hM]
  have HM := hide hM
  have hs0 : M ≤ w.heap.size := by omega
  clear hM
  go_enter Tryd.func16, Tryd.ntmps16
  go_wp2_with fail
  go_loopg [4, 5] (s.size + 1) (fun g vl vk w' => ∃ (L : List ByteArray) (j k : Nat) (ar : Option Addr) (cr : Nat), vl = .slice ar j cr ∧ vk = .int .i64 k ∧ k ≤ s.size ∧ j ≤ k ∧ g = s.size + 1 - k ∧ Hid (L.length = j) ∧ Hid (cutP s 0 = (L ++ (cutP s k).1, (cutP s k).2)) ∧ Hid (w'.ownsRow M 9 1 (.slice ar j cr) j (stC L)) ∧ Hid (Below M w w') ∧ M ≤ w'.heap.size)
  case atStart => exact ⟨[], 0, 0, none, 0, rfl, rfl, Nat.zero_le _, Nat.le_refl _, rfl, hide rfl, hide rfl, hide (World.ownsRow_nil _ _ _ _), hide (Below.refl _ _), hs0⟩
  case round =>
    obtain ⟨L, j, k, ar, cr, rfl, rfl, hk, hjk, rfl, HL, HC, HO, HB, hs⟩ := hrel
    by_cases ck : k < s.size
    · by_cases c2 : k + 2 ≤ s.size
      · have hnl := num2_lt s k
        have Key : Hid (∀ W, Calls Tryd.prog 23 #[.string s, .int .i64 (k : Int), .int .i64 2] W fun e w' => e = .returned (.tuple #[.int .i64 (num s k 2 : Nat), .bool true]) ∧ w' = W) := hide fun W => number_yes s k 2 W (by omega) (by omega) (by omega)
        by_cases cw : k + 2 + num s k 2 ≤ s.size
        · have hcy := cut_yes ⟨c2, cw⟩
          have HC2 : Hid (cutP s 0 = (L ++ [s.extract (k + 2) (k + 2 + num s k 2)] ++ (cutP s (k + 2 + num s k 2)).1, (cutP s (k + 2 + num s k 2)).2)) := hide (by rw [unhide HC, hcy, List.append_assoc]; rfl)
          clear hcy HC
          generalize num s k 2 = n at *
          go_wp2_with fail
          refine (unhide Key _).mono ?_
          rintro e w1 ⟨rfl, rfl⟩
          have hlt2 : ¬ (s.size : Int) < (k : Int) + 2 + n := by omega
          go_wp2_with (at_builtin; refine wpList_append_row _ rfl _ _ 22 22 rfl M 9 i0 (.string ⟨#[]⟩) 1 16 Tryd.underlying22 (unhide Hi) (unhide Hz0) (unhide Hz1) (unhide Hz2) rfl (.slice ar j cr) j (stC L) (by rfl) ((unhide HO).alloc _) (.slice (some ⟨w1.heap.size, 0, none⟩) 1 1) 1 [.string (s.extract (k + 2) (k + 2 + n))] (by rfl) (Src.ofSlice _ Tryd.underlying22 ⟨w1.heap.size, 0, none⟩ 1 1 _ rfl (cell_one_st _ _ _ _ rfl) (fun x hx => by simp at hx; subst hx; rfl)) (by unfold maxLen; omega) (by omega) (by simp; omega) ?_; intro a4 e4 w4 hown4 hgrow4 hat4)
          go_roundg (s.size + 1 - (k + 2 + n))
          case measure => omega
          case rel =>
            have hA4 := (Below.refl M w1).alloc hs (.cells #[.string (s.extract (k + 2) (k + 2 + n))] 9)
            have hB4 := hA4.trans (below_append ((unhide HO).alloc _) hgrow4 (Nat.le_trans hs hA4.size))
            refine ⟨L ++ [s.extract (k + 2) (k + 2 + n)], j + 1, k + 2 + n, a4, e4, rfl, by go_num, by omega, by omega, rfl, hide (by rw [List.length_append, unhide HL]; rfl), HC2, hide (by rw [stC_append]; exact hown4), hide ((unhide HB).trans hB4), Nat.le_trans hs hB4.size⟩
        · have hcn := cut_no (s := s) (k := k) (fun h => cw h.2)
          have hfin := unhide HC
          rw [hcn, List.append_nil] at hfin
          have HFin := hide hfin
          clear hcn hfin HC
          generalize num s k 2 = n at *
          go_wp2_with fail
          refine (unhide Key _).mono ?_
          rintro e w1 ⟨rfl, rfl⟩
          have hlt2 : (s.size : Int) < (k : Int) + 2 + n := by omega
          go_wp2_with fail
          go_ret2
          rw [unhide HFin, unhide HL]
          exact ⟨ar, cr, by rw [show (((s.size - k : Nat)) : Int) = s.size - k by omega]; rfl, unhide HO, unhide HB⟩
      · have hcn := cut_no (s := s) (k := k) (fun h => c2 h.1)
        have hfin := unhide HC
        rw [hcn, List.append_nil] at hfin
        have HFin := hide hfin
        have Key : Hid (∀ W, Calls Tryd.prog 23 #[.string s, .int .i64 (k : Int), .int .i64 2] W fun e w' => e = .returned (.tuple #[.int .i64 0, .bool false]) ∧ w' = W) := hide fun W => number_no s k 2 W (by omega) (by omega) (by omega) (by omega)
        clear hcn hfin HC
        go_wp2_with fail
        refine (unhide Key _).mono ?_
        rintro e w1 ⟨rfl, rfl⟩
        go_wp2_with fail
        go_ret2
        rw [unhide HFin, unhide HL]
        exact ⟨ar, cr, by rw [show (((s.size - k : Nat)) : Int) = s.size - k by omega]; rfl, unhide HO, unhide HB⟩
    · have hcn := cut_no (s := s) (k := k) (fun h => by omega)
      have hfin := unhide HC
      rw [hcn, List.append_nil] at hfin
      have HFin := hide hfin
      clear hcn hfin HC
      go_wp2_with fail
      go_ret2
      rw [unhide HFin, unhide HL]
      exact ⟨ar, cr, by rw [show (((s.size - k : Nat)) : Int) = 0 by omega]; rfl, unhide HO, unhide HB⟩

end Go.Proofs.YtdhobdmhnocbgaaDoor
