/-
  Walks over zonekeep: labels, names.
-/
import Derived.Test.YtdhobdmhnocbgaaQRolA
namespace Go.Proofs.Ytdhobdmhnocbgaa
open Go.RowKit Zr

theorem Try.info9 : (Try.prog.info? 9).map (fun i => (i.zero, i.size, i.bytes)) = some (some (Value.string ⟨#[]⟩), 1, 16) := by kernel_rfl

theorem byte_row (w : World) (m : Nat) (h : m < 256) : (w.alloc (.cells #[.int .u8 m] 5)).ownsRow w.heap.size 5 1 (.slice (some ⟨w.heap.size, 0, none⟩) 1 1) (⟨#[UInt8.ofNat m]⟩ : ByteArray).size (byteCells ⟨#[UInt8.ofNat m]⟩) := by
  have hx : byteCells ⟨#[UInt8.ofNat m]⟩ = [Value.int .u8 (m : Nat)] := by
    rw [byteCells_one, UInt8.toNat_ofNat_of_lt' (by simpa using h)]
  rw [hx]
  refine ⟨rfl, .inr ⟨w.heap.size, 1, #[.int .u8 m], rfl, Nat.le_refl _, heap_alloc_new _ _, Nat.le_refl _, by unfold maxLen; omega, rfl, rfl⟩⟩

/-- What label answers. -/
def LabOf (e : Ending) : Prop := ∃ x : ByteArray, 1 ≤ bt x 0 ∧ bt x 0 ≤ 63 ∧ x.size = 1 + bt x 0 ∧ e = .returned (.string x)

set_option maxRecDepth 100000 in
set_option maxHeartbeats 1000000 in
theorem label_any (N R : Nat) (a : Option Addr) (n c : Nat) (K : List ByteArray) (w : World) (h : Ro w N R a n c K) :
    Calls Try.prog 90 #[.pointer (some ⟨R, 0, none⟩)] w fun e w' => LabOf e ∧ Ro w' N R a n c K ∧ RFrame N w w' := by
  have key3 := fun W (h : Ro W N R a n c K) => next_any N R a n c K 3 3 W h (by omega) (by omega) rfl
  have key6 := fun W (h : Ro W N R a n c K) => next_any N R a n c K 6 6 W h (by omega) (by omega) rfl
  have key63 := fun W (h : Ro W N R a n c K) => next_any N R a n c K 63 63 W h (by omega) (by omega) rfl
  have keyB := fun W (h : Ro W N R a n c K) (m : Nat) (v : Int) (hm : m ≤ 100000) (hv : v = m) => bytes_any N R a n c K m v W h hm hv
  have K3 := hide key3
  have K6 := hide key6
  have K63 := hide key63
  have KB := hide keyB
  have H := hide h
  clear key3 key6 key63 keyB h
  go_enter Try.func90, Try.ntmps90
  go_wp2_with fail
  refine (unhide K3 _ (unhide H)).mono ?_
  rintro e w1 ⟨⟨r, hr, rfl⟩, hR1, hg1⟩
  have HF1 := hide ((unhide H).next hg1)
  have HR1 := hide hR1
  clear hR1 hg1
  by_cases cr : r < 2
  · go_wp2_with fail
    refine (unhide K6 _ (unhide HR1)).mono ?_
    rintro e w2 ⟨⟨r2, hr2, rfl⟩, hR2, hg2⟩
    have HF2 := hide ((unhide HF1).trans ((unhide HR1).next hg2))
    have HR2 := hide hR2
    clear hR2 hg2
    have n1 : ((r2 : Int) + 1).toNat = r2 + 1 := by omega
    have hz : (⟨#[97, 98, 65, 66, 110, 78]⟩ : ByteArray).size = 6 := rfl
    have hz1 : ((⟨#[97, 98, 65, 66, 110, 78]⟩ : ByteArray).extract r2 (r2 + 1)).size = 1 := by rw [ByteArray.size_extract]; omega
    have hz2 : (⟨#[1]⟩ : ByteArray).size = 1 := rfl
    go_wp2_with fail
    go_ret
    refine ⟨⟨⟨#[1]⟩ ++ (⟨#[97, 98, 65, 66, 110, 78]⟩ : ByteArray).extract r2 (r2 + 1), ?_, ?_, ?_, rfl⟩, unhide HR2, unhide HF2⟩
    · rw [bt_append, if_pos (by omega)]; decide
    · rw [bt_append, if_pos (by omega)]; decide
    · rw [bt_append, if_pos (by omega), ByteArray.size_append, hz1]; rfl
  · go_wp2_with fail
    refine (unhide K63 _ (unhide HR1)).mono ?_
    rintro e w2 ⟨⟨r2, hr2, rfl⟩, hR2, hg2⟩
    have HF2 := hide ((unhide HF1).trans ((unhide HR1).next hg2))
    have HR2 := hide hR2
    clear hR2 hg2
    obtain ⟨q, hq⟩ : ∃ q : Nat, q = 1 + r2 := ⟨_, rfl⟩
    have hq1 : 1 ≤ q ∧ q ≤ 63 := by omega
    go_wp2_with fail
    have e1 : (1 : Int) + (r2 : Int) = (q : Int) := by omega
    rw [e1]
    clear e1 hq
    refine (unhide KB _ (unhide HR2) q _ (by omega) rfl).mono ?_
    rintro e w3 ⟨⟨s, hs, rfl⟩, hR3, hf3⟩
    have HF3 := hide ((unhide HF2).trans hf3)
    have HR3 := hide hR3
    clear hR3 hf3
    have hrow := byte_row w3 q (by omega)
    have HRow := hide hrow
    clear hrow
    go_wp2_with fail
    rw [run_bytes_row _ 105 9 5 Try.underlying105 Try.underlying5 Try.underlying9 w3.heap.size _ ⟨#[UInt8.ofNat q]⟩ (unhide HRow)]
    have hz2 : (⟨#[UInt8.ofNat q]⟩ : ByteArray).size = 1 := rfl
    have hA := (Below.refl w3.heap.size w3).alloc (Nat.le_refl _) (.cells #[.int .u8 (q : Nat)] 5)
    have hbq : bt ⟨#[UInt8.ofNat q]⟩ 0 = q := by
      show (UInt8.ofNat q).toNat = q
      rw [UInt8.toNat_ofNat_of_lt' (show q < 256 by omega)]
    have HBQ := hide hbq
    clear hbq HRow
    go_wp2_with fail
    go_ret
    refine ⟨⟨⟨#[UInt8.ofNat q]⟩ ++ s, ?_, ?_, ?_, rfl⟩, (unhide HR3).below hA, (unhide HF3).trans (RFrame.of_below hA)⟩
    · rw [bt_append, if_pos (by rw [hz2]; omega), unhide HBQ]; omega
    · rw [bt_append, if_pos (by rw [hz2]; omega), unhide HBQ]; omega
    · rw [bt_append, if_pos (by rw [hz2]; omega), unhide HBQ, ByteArray.size_append, hs, hz2]

theorem tl_cut {s : ByteArray} {k : Nat} (h : Tl s k) : ∀ j, j ≤ k → Tl (s.extract j s.size) (k - j) := by
  have hlt := h.lt
  induction h with
  | root k h1 h2 =>
    intro j hj
    have hs : (s.extract j s.size).size = s.size - j := by rw [ByteArray.size_extract]; omega
    refine .root _ (by omega) ?_
    rw [bt_ex _ _ _ _ (by omega) (Nat.le_refl _), show j + (k - j) = k by omega]
    exact h2
  | lab k h1 h2 h3 ih =>
    intro j hj
    have e : bt (s.extract j s.size) (k - j) = bt s k := by rw [bt_ex _ _ _ _ (by omega) (Nat.le_refl _), show j + (k - j) = k by omega]
    refine .lab _ (by omega) (by omega) ?_
    rw [e]
    have := ih h3.lt j (by omega)
    rwa [show k + 1 + bt s k - j = k - j + 1 + bt s k by omega] at this

theorem whole_cut (s : ByteArray) (h : wholeB s = true) (h0 : bt s 0 ≠ 0) : wholeB (s.extract (1 + bt s 0) s.size) = true ∧ 1 + bt s 0 ≤ s.size := by
  obtain ⟨t1, t2⟩ := tl_ok h
  cases t1 with
  | root _ g1 g2 => exact absurd g2 h0
  | lab _ g1 g2 g3 =>
    rw [Nat.zero_add] at g3
    have hl := g3.lt
    have := tl_cut g3 (1 + bt s 0) (Nat.le_refl _)
    rw [Nat.sub_self] at this
    exact ⟨(whole_iff _).2 ⟨this, by rw [ByteArray.size_extract]; omega⟩, by omega⟩

theorem whole_push (x s : ByteArray) (h1 : 1 ≤ bt x 0) (h2 : bt x 0 ≤ 63) (h3 : x.size = 1 + bt x 0) (hs : wholeB s = true) (h : x.size + s.size ≤ 255) : wholeB (x ++ s) = true := by
  obtain ⟨t1, t2⟩ := tl_ok hs
  refine (whole_iff _).2 ⟨?_, by rw [ByteArray.size_append]; omega⟩
  have e : bt (x ++ s) 0 = bt x 0 := by rw [bt_append, if_pos (by omega)]
  refine .lab 0 (by omega) (by omega) ?_
  rw [e]
  have := t1.shift x
  rwa [Nat.add_zero, h3, ← Nat.zero_add 1] at this

/-- What name answers. -/
def NameOf (w : World) (N R : Nat) (a : Option Addr) (n c : Nat) (K : List ByteArray) (e : Ending) (w' : World) : Prop := ∃ s : ByteArray, wholeB s = true ∧ e = .returned (.string s) ∧ Ro w' N R a n c (K ++ [s]) ∧ RFrame N w w'

set_option maxRecDepth 100000 in
set_option maxHeartbeats 4000000 in
theorem rolls_name (N R : Nat) (a : Option Addr) (n c : Nat) (K : List ByteArray) (w : World) (h : Ro w N R a n c K) (hK : K.length ≤ 1000) :
    Calls Try.prog 49 #[.pointer (some ⟨R, 0, none⟩)] w fun e w' => NameOf w N R a n c K e w' := by
  obtain ⟨i0, hi, hz0, hz1, hz2⟩ := info_parts Try.info9
  have Hi := hide hi
  have Hz0 := hide hz0
  have Hz1 := hide hz1
  have Hz2 := hide hz2
  clear hi hz0 hz1 hz2
  have key0 := fun (v : Int) (hv : v = (K.length + 1 : Nat)) => next_any N R a n c K (K.length + 1) v w h (by omega) (by omega) hv
  have K0 := hide key0
  have H := hide h
  clear key0
  obtain ⟨k0, ak0, ck0, f1, f2, f3, f4, f5, f6, f7⟩ := h
  obtain ⟨⟨c0, c1, c2⟩, z0, z1, z2⟩ := cells3 f1
  clear f1 f2 f3 f4 f5 f6 f7
  go_enter Try.func49, Try.ntmps49
  go_wp2_with fail
  refine (unhide K0 _ (by omega)).mono ?_
  rintro e w1 ⟨⟨r, hr, rfl⟩, hR1, hg1⟩
  have HF1 := hide ((unhide H).next hg1)
  have HR1 := hide hR1
  clear hR1 hg1 c0 c1 c2 z0 z1 z2 K0
  by_cases cr : r = 0
  · subst cr
    have HW1 : Hid (wholeB ⟨#[0]⟩ = true) := hide (by decide)
    have key5 := fun W (h : Ro W N R a n c K) => next_any N R a n c K 5 5 W h (by omega) (by omega) rfl
    have Key5 := hide key5
    clear key5
    go_wp2_with fail
    refine (unhide Key5 _ (unhide HR1)).mono ?_
    rintro e w5 ⟨⟨r5, hr5, rfl⟩, hR5, hg5⟩
    have hF5 := (unhide HF1).trans ((unhide HR1).next hg5)
    have HR5 := hide hR5
    have HF5 := hide hF5
    clear hR5 hF5 hg5 HR1 HF1
    go_wp2_with fail
    go_loopg [3, 8] (r5 + 1) (fun g vs vi w' => ∃ (j : Nat) (s : ByteArray), vi = .int .i64 j ∧ j ≤ r5 ∧ g = r5 + 1 - j ∧ vs = .string s ∧ Hid (wholeB s = true) ∧ Hid (Ro w' N R a n c K) ∧ Hid (RFrame N w w'))
    case atStart => exact ⟨0, _, rfl, Nat.zero_le _, rfl, rfl, HW1, HR5, HF5⟩
    case round =>
      obtain ⟨j, s, rfl, hj, rfl, rfl, HW, HR, HF⟩ := hrel
      have hsz := whole_pos (unhide HW)
      clear HR5 HF5
      by_cases cj : j < r5
      · have key := label_any N R a n c K _ (unhide HR)
        have Key := hide key
        clear key
        go_wp2_with fail
        refine (unhide Key).mono ?_
        rintro e w6 ⟨⟨x, x1, x2, x3, rfl⟩, hR6, hF6⟩
        have HR6 := hide hR6
        have HF6 := hide ((unhide HF).trans hF6)
        clear hR6 hF6 HR HF Key
        by_cases cx : x.size + s.size ≤ 255
        · have hw := whole_push x s x1 x2 x3 (unhide HW) cx
          have HW2 := hide hw
          clear hw x1 x2 x3
          go_wp2_with fail
          go_roundg (r5 + 1 - (j + 1))
          case measure => omega
          case rel => exact ⟨j + 1, _, by go_num, by omega, rfl, rfl, HW2, HR6, HF6⟩
        · have hxs : x.size ≤ 64 := by omega
          clear x1 x2 x3
          go_wp2_with fail
          go_roundg (r5 + 1 - (j + 1))
          case measure => omega
          case rel => exact ⟨j + 1, _, by go_num, by omega, rfl, rfl, HW, HR6, HF6⟩
      · obtain ⟨k, ak, ck, g1, g2, g3, g4, g5, g6, g7⟩ := unhide HR
        obtain ⟨⟨c0, c1, c2⟩, z0, z1, z2⟩ := cells3 g1
        have hlt := blk_lt g1
        have G1 := hide g1
        have G5 := hide g5
        have G6 := hide g6
        have G7 := hide g7
        clear g1 g5 g6 g7 HR
        go_wp2_with (at_builtin; refine wpList_append_row _ rfl _ _ 42 42 rfl N 9 i0 (.string ⟨#[]⟩) 1 16 Try.underlying42 (unhide Hi) (unhide Hz0) (unhide Hz1) (unhide Hz2) rfl (.slice ak K.length ck) K.length (scells K) (by rfl) ((unhide G5).alloc _) (.slice (some ⟨wr.heap.size, 0, none⟩) 1 1) 1 [.string s] (by rfl) (Src.ofSlice _ Try.underlying42 ⟨wr.heap.size, 0, none⟩ 1 1 _ rfl (cell_one_new _ _ _ _ rfl) (fun x hx => by simp at hx; rcases hx with rfl <;> rfl)) (by unfold maxLen; omega) (by omega) (by simp; omega) ?_; intro a1 e1 w7 hown7 hgrow7 hat7; have hRa := (heap_alloc_old wr (.cells #[.string s] 9) hlt).trans (unhide G1); have hR7 := blk_kind ((unhide G5).alloc _) hgrow7 hRa (by decide); have hA7 := (Below.refl wr.heap.size wr).alloc (Nat.le_refl _) (.cells #[.string s] 9); have hfr := (RFrame.of_below (N := N) hA7).trans (RFrame.of_append ((unhide G5).alloc _) hgrow7 (.inr (.inl rfl))); obtain ⟨⟨d0, d1, d2⟩, y0, y1, y2⟩ := cells3 hR7; have HR7 := hide hR7; have HFR := hide hfr; have HO7 := hide hown7; clear c0 c1 c2 z0 z1 z2 hR7 hown7 hgrow7 hat7 hRa hA7 hfr)
        go_ret
        have hS := (unhide HFR).trans (RFrame.of_grown (grown_set w7 R 2 (.slice a1 (K.length + 1) e1)) g2 (unhide HR7) (.inr (.inr rfl)))
        refine ⟨s, unhide HW, rfl, ⟨k, a1, e1, ?_, g2, g3, g4, ?_, (unhide G6).below (hS.below (by omega)), fun x hx => ?_⟩, (unhide HF).trans hS⟩
        · rw [List.length_append]; exact (blk_set (unhide HR7) 2 _).trans rfl
        · rw [List.length_append, show scells (K ++ [s]) = scells K ++ [.string s] by simp [scells]]; exact owns_set_kind (unhide HO7) (unhide HR7) (by decide) 2 _
        · rcases List.mem_append.1 hx with hx | hx
          · exact unhide G7 x hx
          · rw [List.mem_singleton.1 hx]; exact unhide HW
  · have key3 := fun W (h : Ro W N R a n c K) => next_any N R a n c K 3 3 W h (by omega) (by omega) rfl
    have Key3 := hide key3
    clear key3
    obtain ⟨k1, ak1, ck1, f1, f2, f3, f4, f5, f6, f7⟩ := unhide HR1
    obtain ⟨⟨c0, c1, c2⟩, z0, z1, z2⟩ := cells3 f1
    have hr1 : r - 1 < K.length := by omega
    have hwK : wholeB K[r - 1] = true := f7 _ (List.getElem_mem _)
    have HW0 := hide hwK
    obtain ⟨g, rfl, _, _, hcap⟩ := owns_form f5 (by omega)
    have x0 := owns_cell f5 (r - 1) (.string K[r - 1]) (by simp [scells, hr1])
    have hpos : (0 : Int) < (r : Int) := by omega
    have hrn : ((r : Int) - 1).toNat = r - 1 := by omega
    clear f1 f2 f3 f4 f5 f6 f7 hwK
    generalize K[r - 1] = s0 at *
    go_wp2_with fail
    refine (unhide Key3 _ (unhide HR1)).mono ?_
    rintro e w2 ⟨⟨r3, hr3, rfl⟩, hR2, hg2⟩
    have HR2 := hide hR2
    have HF2 := hide ((unhide HF1).trans ((unhide HR1).next hg2))
    clear hR2 hg2 HR1 HF1 c0 c1 c2 z0 z1 z2 x0 hpos hrn hcap Key3
    go_wp2_with fail
    go_loopg [3, 6] (r3 + 1) (fun g vs vi w' => ∃ (j : Nat) (s : ByteArray), vi = .int .i64 j ∧ j ≤ r3 ∧ g = r3 + 1 - j ∧ vs = .string s ∧ Hid (wholeB s = true) ∧ w' = w2)
    case atStart => exact ⟨0, _, rfl, Nat.zero_le _, rfl, rfl, HW0, rfl⟩
    case round =>
      obtain ⟨j0, s1, rfl, hj0, rfl, rfl, HW1, rfl⟩ := hrel
      have hsz1 := whole_pos (unhide HW1)
      have hb0 := bt_get s1 0 (by omega)
      have HR1 := HR2
      have HF1 := HF2
      clear HR2 HF2
      by_cases cj0 : j0 < r3
      · by_cases cb : bt s1 0 = 0
        · rw [cb] at hb0
          clear cb
          have key5 := fun W (h : Ro W N R a n c K) => next_any N R a n c K 5 5 W h (by omega) (by omega) rfl
          have Key5 := hide key5
          clear key5
          go_wp2_with fail
          refine (unhide Key5 _ (unhide HR1)).mono ?_
          rintro e w5 ⟨⟨r5, hr5, rfl⟩, hR5, hg5⟩
          have hF5 := (unhide HF1).trans ((unhide HR1).next hg5)
          have HR5 := hide hR5
          have HF5 := hide hF5
          clear hR5 hF5 hg5 HR1 HF1
          go_wp2_with fail
          go_loopg [3, 8] (r5 + 1) (fun g vs vi w' => ∃ (j : Nat) (s : ByteArray), vi = .int .i64 j ∧ j ≤ r5 ∧ g = r5 + 1 - j ∧ vs = .string s ∧ Hid (wholeB s = true) ∧ Hid (Ro w' N R a n c K) ∧ Hid (RFrame N w w'))
          case atStart => exact ⟨0, _, rfl, Nat.zero_le _, rfl, rfl, HW1, HR5, HF5⟩
          case round =>
            obtain ⟨j, s, rfl, hj, rfl, rfl, HW, HR, HF⟩ := hrel
            have hsz := whole_pos (unhide HW)
            clear HR5 HF5
            by_cases cj : j < r5
            · have key := label_any N R a n c K _ (unhide HR)
              have Key := hide key
              clear key
              go_wp2_with fail
              refine (unhide Key).mono ?_
              rintro e w6 ⟨⟨x, x1, x2, x3, rfl⟩, hR6, hF6⟩
              have HR6 := hide hR6
              have HF6 := hide ((unhide HF).trans hF6)
              clear hR6 hF6 HR HF Key
              by_cases cx : x.size + s.size ≤ 255
              · have hw := whole_push x s x1 x2 x3 (unhide HW) cx
                have HW2 := hide hw
                clear hw x1 x2 x3
                go_wp2_with fail
                go_roundg (r5 + 1 - (j + 1))
                case measure => omega
                case rel => exact ⟨j + 1, _, by go_num, by omega, rfl, rfl, HW2, HR6, HF6⟩
              · have hxs : x.size ≤ 64 := by omega
                clear x1 x2 x3
                go_wp2_with fail
                go_roundg (r5 + 1 - (j + 1))
                case measure => omega
                case rel => exact ⟨j + 1, _, by go_num, by omega, rfl, rfl, HW, HR6, HF6⟩
            · obtain ⟨k, ak, ck, g1, g2, g3, g4, g5, g6, g7⟩ := unhide HR
              obtain ⟨⟨c0, c1, c2⟩, z0, z1, z2⟩ := cells3 g1
              have hlt := blk_lt g1
              have G1 := hide g1
              have G5 := hide g5
              have G6 := hide g6
              have G7 := hide g7
              clear g1 g5 g6 g7 HR
              go_wp2_with (at_builtin; refine wpList_append_row _ rfl _ _ 42 42 rfl N 9 i0 (.string ⟨#[]⟩) 1 16 Try.underlying42 (unhide Hi) (unhide Hz0) (unhide Hz1) (unhide Hz2) rfl (.slice ak K.length ck) K.length (scells K) (by rfl) ((unhide G5).alloc _) (.slice (some ⟨wr.heap.size, 0, none⟩) 1 1) 1 [.string s] (by rfl) (Src.ofSlice _ Try.underlying42 ⟨wr.heap.size, 0, none⟩ 1 1 _ rfl (cell_one_new _ _ _ _ rfl) (fun x hx => by simp at hx; rcases hx with rfl <;> rfl)) (by unfold maxLen; omega) (by omega) (by simp; omega) ?_; intro a1 e1 w7 hown7 hgrow7 hat7; have hRa := (heap_alloc_old wr (.cells #[.string s] 9) hlt).trans (unhide G1); have hR7 := blk_kind ((unhide G5).alloc _) hgrow7 hRa (by decide); have hA7 := (Below.refl wr.heap.size wr).alloc (Nat.le_refl _) (.cells #[.string s] 9); have hfr := (RFrame.of_below (N := N) hA7).trans (RFrame.of_append ((unhide G5).alloc _) hgrow7 (.inr (.inl rfl))); obtain ⟨⟨d0, d1, d2⟩, y0, y1, y2⟩ := cells3 hR7; have HR7 := hide hR7; have HFR := hide hfr; have HO7 := hide hown7; clear c0 c1 c2 z0 z1 z2 hR7 hown7 hgrow7 hat7 hRa hA7 hfr)
              go_ret
              have hS := (unhide HFR).trans (RFrame.of_grown (grown_set w7 R 2 (.slice a1 (K.length + 1) e1)) g2 (unhide HR7) (.inr (.inr rfl)))
              refine ⟨s, unhide HW, rfl, ⟨k, a1, e1, ?_, g2, g3, g4, ?_, (unhide G6).below (hS.below (by omega)), fun x hx => ?_⟩, (unhide HF).trans hS⟩
              · rw [List.length_append]; exact (blk_set (unhide HR7) 2 _).trans rfl
              · rw [List.length_append, show scells (K ++ [s]) = scells K ++ [.string s] by simp [scells]]; exact owns_set_kind (unhide HO7) (unhide HR7) (by decide) 2 _
              · rcases List.mem_append.1 hx with hx | hx
                · exact unhide G7 x hx
                · rw [List.mem_singleton.1 hx]; exact unhide HW
        · obtain ⟨h1, h2⟩ := whole_cut s1 (unhide HW1) cb
          have hl0 := bt_lt s1 0
          have hne : ((bt s1 0 : Int) != 0) = true := by simp; omega
          have n1 : ((1 : Int) + (bt s1 0 : Int)).toNat = 1 + bt s1 0 := by omega
          have H1 := hide h1
          clear h1 cb
          generalize bt s1 0 = q at *
          go_wp2_with fail
          go_roundg (r3 + 1 - (j0 + 1))
          case measure => omega
          case rel => exact ⟨j0 + 1, _, by go_num, by omega, rfl, rfl, H1, rfl⟩
      · clear hb0
        have key5 := fun W (h : Ro W N R a n c K) => next_any N R a n c K 5 5 W h (by omega) (by omega) rfl
        have Key5 := hide key5
        clear key5
        go_wp2_with fail
        refine (unhide Key5 _ (unhide HR1)).mono ?_
        rintro e w5 ⟨⟨r5, hr5, rfl⟩, hR5, hg5⟩
        have hF5 := (unhide HF1).trans ((unhide HR1).next hg5)
        have HR5 := hide hR5
        have HF5 := hide hF5
        clear hR5 hF5 hg5 HR1 HF1
        go_wp2_with fail
        go_loopg [3, 8] (r5 + 1) (fun g vs vi w' => ∃ (j : Nat) (s : ByteArray), vi = .int .i64 j ∧ j ≤ r5 ∧ g = r5 + 1 - j ∧ vs = .string s ∧ Hid (wholeB s = true) ∧ Hid (Ro w' N R a n c K) ∧ Hid (RFrame N w w'))
        case atStart => exact ⟨0, _, rfl, Nat.zero_le _, rfl, rfl, HW1, HR5, HF5⟩
        case round =>
          obtain ⟨j, s, rfl, hj, rfl, rfl, HW, HR, HF⟩ := hrel
          have hsz := whole_pos (unhide HW)
          clear HR5 HF5
          by_cases cj : j < r5
          · have key := label_any N R a n c K _ (unhide HR)
            have Key := hide key
            clear key
            go_wp2_with fail
            refine (unhide Key).mono ?_
            rintro e w6 ⟨⟨x, x1, x2, x3, rfl⟩, hR6, hF6⟩
            have HR6 := hide hR6
            have HF6 := hide ((unhide HF).trans hF6)
            clear hR6 hF6 HR HF Key
            by_cases cx : x.size + s.size ≤ 255
            · have hw := whole_push x s x1 x2 x3 (unhide HW) cx
              have HW2 := hide hw
              clear hw x1 x2 x3
              go_wp2_with fail
              go_roundg (r5 + 1 - (j + 1))
              case measure => omega
              case rel => exact ⟨j + 1, _, by go_num, by omega, rfl, rfl, HW2, HR6, HF6⟩
            · have hxs : x.size ≤ 64 := by omega
              clear x1 x2 x3
              go_wp2_with fail
              go_roundg (r5 + 1 - (j + 1))
              case measure => omega
              case rel => exact ⟨j + 1, _, by go_num, by omega, rfl, rfl, HW, HR6, HF6⟩
          · obtain ⟨k, ak, ck, g1, g2, g3, g4, g5, g6, g7⟩ := unhide HR
            obtain ⟨⟨c0, c1, c2⟩, z0, z1, z2⟩ := cells3 g1
            have hlt := blk_lt g1
            have G1 := hide g1
            have G5 := hide g5
            have G6 := hide g6
            have G7 := hide g7
            clear g1 g5 g6 g7 HR
            go_wp2_with (at_builtin; refine wpList_append_row _ rfl _ _ 42 42 rfl N 9 i0 (.string ⟨#[]⟩) 1 16 Try.underlying42 (unhide Hi) (unhide Hz0) (unhide Hz1) (unhide Hz2) rfl (.slice ak K.length ck) K.length (scells K) (by rfl) ((unhide G5).alloc _) (.slice (some ⟨wr.heap.size, 0, none⟩) 1 1) 1 [.string s] (by rfl) (Src.ofSlice _ Try.underlying42 ⟨wr.heap.size, 0, none⟩ 1 1 _ rfl (cell_one_new _ _ _ _ rfl) (fun x hx => by simp at hx; rcases hx with rfl <;> rfl)) (by unfold maxLen; omega) (by omega) (by simp; omega) ?_; intro a1 e1 w7 hown7 hgrow7 hat7; have hRa := (heap_alloc_old wr (.cells #[.string s] 9) hlt).trans (unhide G1); have hR7 := blk_kind ((unhide G5).alloc _) hgrow7 hRa (by decide); have hA7 := (Below.refl wr.heap.size wr).alloc (Nat.le_refl _) (.cells #[.string s] 9); have hfr := (RFrame.of_below (N := N) hA7).trans (RFrame.of_append ((unhide G5).alloc _) hgrow7 (.inr (.inl rfl))); obtain ⟨⟨d0, d1, d2⟩, y0, y1, y2⟩ := cells3 hR7; have HR7 := hide hR7; have HFR := hide hfr; have HO7 := hide hown7; clear c0 c1 c2 z0 z1 z2 hR7 hown7 hgrow7 hat7 hRa hA7 hfr)
            go_ret
            have hS := (unhide HFR).trans (RFrame.of_grown (grown_set w7 R 2 (.slice a1 (K.length + 1) e1)) g2 (unhide HR7) (.inr (.inr rfl)))
            refine ⟨s, unhide HW, rfl, ⟨k, a1, e1, ?_, g2, g3, g4, ?_, (unhide G6).below (hS.below (by omega)), fun x hx => ?_⟩, (unhide HF).trans hS⟩
            · rw [List.length_append]; exact (blk_set (unhide HR7) 2 _).trans rfl
            · rw [List.length_append, show scells (K ++ [s]) = scells K ++ [.string s] by simp [scells]]; exact owns_set_kind (unhide HO7) (unhide HR7) (by decide) 2 _
            · rcases List.mem_append.1 hx with hx | hx
              · exact unhide G7 x hx
              · rw [List.mem_singleton.1 hx]; exact unhide HW

end Go.Proofs.Ytdhobdmhnocbgaa
