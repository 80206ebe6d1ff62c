/-
  append onto a row of the call's own: the old row still reads as it did.
-/
/-
  Walks over the document's own answer: small letters; a name at or below another; the set of a name and a type; is there a name?
-/
/-
  Walks over the document's own answer: its sets in memory; one more set.
-/
/-
  The document's answer sets: plain, and the walks over asked, typed.
-/
/-
  Walks over the document's own answer: typed.
-/
import Derived.Test.YtdhobdmhnocbgaaGreatSOnrow
import Derived.Test.YtdhobdmhnocbgaaGreatSWaP
import Derived.Test.YtdhobdmhnocbgaaGreatSSiW
namespace Go.Proofs.YtdhobdmhnocbgaaGreat
open Go.RowKit

section
variable {P : Program} {w : World}

theorem run_append_row_cells (t tx ty e : TypeId) (i : TypeInfo) (z : Value) (ht : P.underlying t = some (.slice e)) (hi : P.info? e = some i) (hz : i.zero = some z)
    (base : Nat) (g n cap : Nat) (xs : List Value) (hown : w.ownsRow base e i.size (.slice (some ⟨g, 0, none⟩) n cap) n xs)
    (x : Value) (m : Nat) (news : List Value) (hs : Src P i.size tx x m news w)
    (h63 : n + m ≤ maxLen) (hbytes : (n + m) * i.bytes ≤ 140737488355328) {v' : Value} {w' : World}
    (hr : (Builtin.append_ #[t, tx] ty #[.slice (some ⟨g, 0, none⟩) n cap, x]).run P w = .ok v' w') :
    ∀ j u, xs[j]? = some u → w'.cell? ⟨g, j, none⟩ = some u := by
  have hsmall : n + m ≤ 9223372036854775807 := by simp only [maxLen] at h63; omega
  have hlen : xs.length = n * i.size := hown.1
  rcases hown.2 with ⟨h0, _⟩ | ⟨g', cap', cur, h0, hbg, hg, hnc, hcm, hcs, htake⟩
  · cases h0
  · cases h0
    intro j u hu
    have hj : j < n * i.size := by rw [← hlen]; exact (List.getElem?_eq_some_iff.1 hu).1
    by_cases hroom : n + m ≤ cap
    · have hfit : n * i.size + news.length ≤ cur.size := by rw [hs.newsLen, hcs, ← Nat.add_mul]; exact Nat.mul_le_mul_right _ hroom
      have hr2 := run_append_room_row (P := P) w t tx ty e i ht hi g n cap cur hg x m news hs hroom hfit
      rw [hr2] at hr
      cases hr
      rw [cell_of_blk (setRow_heap w g cur _ e _ hg)]
      rw [List.append_assoc, List.getElem?_toArray, htake, List.getElem?_append_left (by rw [hlen]; exact hj)]
      exact hu
    · have holds : ∀ j u, xs[j]? = some u → w.cell? ((⟨g, 0, none⟩ : Addr).add j) = some u := hown.cells (g := g) rfl
      have hold := run_firstCells_some (P := P) w.drew i.size n ⟨g, 0, none⟩ n cap xs hown.1 (by simpa using holds)
      have hr2 := run_append_grow_src (P := P) w t tx ty e i z ht hi hz (some ⟨g, 0, none⟩) n cap xs hold x m news hs (by omega) (by omega) (growslice_fits (by omega) hbytes)
      rw [hr2] at hr
      cases hr
      have h1 := heap_alloc_old w.drew (.cells ((xs ++ news).toArray ++ Builtin.zeroCells z.cells (grownCap w (n + m) cap e - (n + m))) e) (blk_lt hg)
      rw [cell_of_blk (h1.trans hg), ← hu, ← htake, List.getElem?_take, if_pos hj]
      simp

end
end Go.Proofs.YtdhobdmhnocbgaaGreat

namespace Go.Proofs.YtdhobdmhnocbgaaGreat
open Go.RowKit Zr

set_option maxRecDepth 100000 in
set_option maxHeartbeats 2000000 in
theorem refSmall_w (s : ByteArray) (w : World) (hs : s.size ≤ 4294967296) :
    Calls Tryz.prog 26 #[.string s] w fun e w' => e = .returned (.string (smallP s)) ∧ Below w.heap.size w w' := by
  obtain ⟨N, hN⟩ : ∃ N, w.heap.size = N := ⟨_, rfl⟩
  rw [hN]
  go_enter Tryz.func26, Tryz.ntmps26
  go_wp2_with fail
  go_loopg [3, 4] (s.size + 1) (fun g vt vi w' => ∃ (j : Nat) (B : ByteArray), vi = .int .i64 j ∧ j ≤ s.size ∧ g = s.size + 1 - j ∧ vt = .string B ∧ Hid (smallTo s j = B) ∧ Hid (Below N w w') ∧ N ≤ w'.heap.size)
  case atStart => exact ⟨0, ⟨#[]⟩, rfl, Nat.zero_le _, rfl, rfl, hide rfl, hide (Below.refl _ _), by omega⟩
  case round =>
    obtain ⟨j, B, rfl, hj, rfl, rfl, HT, HB, hNw⟩ := hrel
    by_cases cj : j < s.size
    · have hg := bt_get s j cj
      have hlt := bt_lt s j
      have hT : smallTo s (j + 1) = B ++ one (lowC (bt s j)) := by rw [← unhide HT]; rfl
      have hBs : B.size = j := by rw [← unhide HT]; exact smallTo_size s j
      have HT2 := hide hT
      clear hT
      have hcase : (bt s j < 65 ∧ lowC (bt s j) = bt s j) ∨ (90 < bt s j ∧ lowC (bt s j) = bt s j) ∨ (65 ≤ bt s j ∧ bt s j ≤ 90 ∧ lowC (bt s j) = bt s j + 32) := by
        unfold lowC
        by_cases c1 : bt s j < 65
        · exact .inl ⟨c1, if_neg (by omega)⟩
        · by_cases c2 : 90 < bt s j
          · exact .inr (.inl ⟨c2, if_neg (by omega)⟩)
          · exact .inr (.inr ⟨by omega, by omega, if_pos (by omega)⟩)
      generalize bt s j = c at *
      have h1 : ∀ d, (one d).size = 1 := fun _ => rfl
      have hsum : ∀ d, B.size + (one d).size ≤ 9223372036854775807 := fun d => by rw [h1]; omega
      have HBs := hide hBs
      rcases hcase with ⟨c1, hc⟩ | ⟨c1, hc⟩ | ⟨c1, c2, hc⟩
      all_goals
        rw [hc] at HT2
        clear hc
      · have HO := hide (one_owns wr c (by omega))
        have hA := ((unhide HB).alloc hNw (.cells #[.int .u8 (c : Nat)] 5))
        have hs2 := hsum c
        go_wp2_with fail
        rw [run_bytes_row _ 96 9 5 Tryz.underlying96 Tryz.underlying5 Tryz.underlying9 wr.heap.size _ (one c) (unhide HO)]
        have HA := hide hA
        have hs3 : N ≤ (wr.alloc (.cells #[.int .u8 (c : Nat)] 5)).heap.size := by simp; omega
        clear hA
        go_wp2_with fail
        go_roundg (s.size + 1 - (j + 1))
        case measure => omega
        case rel => exact ⟨j + 1, _, by go_num, by omega, rfl, rfl, HT2, HA, hs3⟩
      · have HO := hide (one_owns wr c (by omega))
        have hA := ((unhide HB).alloc hNw (.cells #[.int .u8 (c : Nat)] 5))
        have hs2 := hsum c
        go_wp2_with fail
        rw [run_bytes_row _ 96 9 5 Tryz.underlying96 Tryz.underlying5 Tryz.underlying9 wr.heap.size _ (one c) (unhide HO)]
        have HA := hide hA
        have hs3 : N ≤ (wr.alloc (.cells #[.int .u8 (c : Nat)] 5)).heap.size := by simp; omega
        clear hA
        go_wp2_with fail
        go_roundg (s.size + 1 - (j + 1))
        case measure => omega
        case rel => exact ⟨j + 1, _, by go_num, by omega, rfl, rfl, HT2, HA, hs3⟩
      · have ho := one_owns wr (c + 32) (by omega)
        rw [show ((c + 32 : Nat) : Int) = (c : Int) + 32 by omega] at ho
        have HO := hide ho
        have hA := ((unhide HB).alloc hNw (.cells #[.int .u8 ((c : Int) + 32)] 5))
        have hs2 := hsum (c + 32)
        clear ho
        go_wp2_with fail
        rw [run_bytes_row _ 96 9 5 Tryz.underlying96 Tryz.underlying5 Tryz.underlying9 wr.heap.size _ (one (c + 32)) (unhide HO)]
        have HA := hide hA
        have hs3 : N ≤ (wr.alloc (.cells #[.int .u8 ((c : Int) + 32)] 5)).heap.size := by simp; omega
        clear hA
        go_wp2_with fail
        go_roundg (s.size + 1 - (j + 1))
        case measure => omega
        case rel => exact ⟨j + 1, _, by go_num, by omega, rfl, rfl, HT2, HA, hs3⟩
    · have ej : j = s.size := by omega
      subst ej
      go_wp2_with fail
      go_ret
      exact ⟨by rw [← unhide HT]; rfl, unhide HB⟩

theorem root_list : (⟨#[0]⟩ : ByteArray).toList = [0] := by rw [ByteArray.toList_eq]
theorem cut_tail (s : ByteArray) (k c : Nat) (h : k + 1 + c ≤ s.size) : (s.extract k s.size).extract (1 + c) (s.extract k s.size).size = s.extract (k + 1 + c) s.size := by
  have hz : (s.extract k s.size).size = s.size - k := by rw [ByteArray.size_extract]; omega
  apply bt_ext
  · simp only [ByteArray.size_extract]; omega
  · intro i hi
    simp only [ByteArray.size_extract] at hi
    rw [bt_ex _ _ _ i (by omega) (Nat.le_refl _), bt_ex s k _ _ (by omega) (Nat.le_refl _), bt_ex s _ _ i (by omega) (Nat.le_refl _)]
    congr 1
    omega

set_option maxRecDepth 100000 in
set_option maxHeartbeats 2000000 in
theorem atOrBelow_w (s o : ByteArray) (w : World) : ∀ k, Tl s k →
    Calls Tryz.prog 51 #[.string (s.extract k s.size), .string o] w fun e w' => e = .returned (.bool (withinAt s o k)) ∧ w' = w := by
  intro k ht
  induction ht with
  | root k h1 h2 =>
    have hx : s.extract k s.size = ⟨#[0]⟩ := by
      apply bt_ext
      · rw [ByteArray.size_extract]; show _ = 1; omega
      · intro i hi
        rw [ByteArray.size_extract] at hi
        have : i = 0 := by omega
        subst this
        rw [bt_ex s k _ 0 (by omega) (Nat.le_refl _), Nat.add_zero, h2]
        rfl
    have hw : withinAt s o k = if s.extract k s.size = o then true else false := by
      rw [withinAt, dif_pos (by omega), h2]
      have : withinAt s o (k + 1 + 0) = false := by rw [withinAt, dif_neg (by omega)]
      rw [this]
    rw [hw, hx]
    by_cases ce : (⟨#[0]⟩ : ByteArray) = o
    · rw [if_pos ce]
      have f1 := strs_eq ce
      rw [root_list] at f1
      clear ce
      go_enter Tryz.func51, Tryz.ntmps51
      go_wp2_with fail
      go_ret
      exact ⟨rfl, rfl⟩
    · rw [if_neg ce]
      have f1 := strs_ne ce
      rw [root_list] at f1
      clear ce
      go_enter Tryz.func51, Tryz.ntmps51
      go_wp2_with fail
      go_ret
      exact ⟨rfl, rfl⟩
  | lab k h1 h2 h3 ih =>
    have hlt := h3.lt
    have hw : withinAt s o k = if s.extract k s.size = o then true else withinAt s o (k + 1 + bt s k) := by rw [withinAt, dif_pos (by omega)]
    rw [hw]
    have hxs : (s.extract k s.size).size = s.size - k := by rw [ByteArray.size_extract]; omega
    have hx0 : bt (s.extract k s.size) 0 = bt s k := by rw [bt_ex s k _ 0 (by omega) (Nat.le_refl _), Nat.add_zero]
    have hcut := cut_tail s k (bt s k) (by omega)
    rw [← hcut] at ih
    obtain ⟨res, hres⟩ : ∃ res, withinAt s o (k + 1 + bt s k) = res := ⟨_, rfl⟩
    rw [hres] at ih ⊢
    have IH := hide ih
    clear hcut hres hw ih h3
    generalize s.extract k s.size = x at *
    by_cases ce : x = o
    · rw [if_pos ce]
      have f1 := strs_eq ce
      clear ce
      go_enter Tryz.func51, Tryz.ntmps51
      go_wp2_with fail
      go_ret
      exact ⟨rfl, rfl⟩
    · rw [if_neg ce]
      have f1 := strs_ne ce
      have hp : 0 < x.size := by omega
      have hg := bt_get x 0 hp
      rw [hx0] at hg
      have f2 : (x.toList == (⟨#[0]⟩ : ByteArray).toList) = false := strs_ne fun e => by rw [e] at hx0; have : bt (⟨#[0]⟩ : ByteArray) 0 = 0 := rfl; omega
      rw [root_list] at f2
      have f3 : (x.toList == (⟨#[]⟩ : ByteArray).toList) = false := strs_ne fun e => by rw [e] at hp; exact absurd hp (by decide)
      have f4 : x.toList.isEmpty = false := by rw [bytes_isEmpty]; exact decide_eq_false (by omega)
      have hl2 : 1 + bt s k ≤ x.size := by omega
      have hl3 : bt s k < 256 := by omega
      generalize bt s k = c at *
      have q1 : decide ((x.size : Int) < 1 + (c : Int)) = false := decide_eq_false (by omega)
      have q2 : ¬ (x.size : Int) < 1 + (c : Int) := by omega
      clear ce hx0 hxs
      go_enter Tryz.func51, Tryz.ntmps51
      go_wp2_with fail
      refine (unhide IH).mono ?_
      rintro e w1 ⟨rfl, rfl⟩
      go_wp2_with fail
      go_ret
      exact ⟨rfl, rfl⟩

set_option maxRecDepth 100000 in
set_option maxHeartbeats 2000000 in
theorem refOf_w (z : List RI) (n : ByteArray) (t : Int) (az : Option Addr) (cz N : Nat) (w : World) (hz0 : RowAt w N az (rcI z)) (hN : N ≤ w.heap.size) (hl : z.length ≤ 134217728) :
    Calls Tryz.prog 93 #[.slice az z.length cz, .string n, .int .i64 t] w fun e w' => RecsOut w (ofP z n t) e w' := by
  obtain ⟨i0, hi, hi0, hi1, hi2⟩ := info_parts Tryz.info42
  have Hi := hide hi
  have Hz0 := hide hi0
  have Hz1 := hide hi1
  have Hz2 := hide hi2
  have HZ := hide hz0
  have HT := hide (ofP_take z n t)
  have hLen := ofP_len z n t
  have HLe := hide (fun j => ofP_len (z.take j) n t)
  clear hi hi0 hi1 hi2 hz0
  obtain ⟨N0, hN0⟩ : ∃ N0, w.heap.size = N0 := ⟨_, rfl⟩
  unfold RecsOut
  rw [hN0]
  rw [hN0] at hN
  go_enter Tryz.func93, Tryz.ntmps93
  go_wp2_with fail
  go_loopg [7, 8] (z.length + 1) (fun g vb vi w' => ∃ (j m : Nat) (ab : Option Addr) (cb : Nat), vi = .int .i64 j ∧ j ≤ z.length ∧ g = z.length + 1 - j ∧ vb = .slice ab m cb ∧ m ≤ j ∧ Hid ((ofP (z.take j) n t).length = m) ∧ Hid (w'.ownsRow N0 42 5 (.slice ab m cb) m (rcI (ofP (z.take j) n t))) ∧ Hid (Below N0 w w') ∧ N0 ≤ w'.heap.size)
  case atStart => exact ⟨0, 0, none, 0, rfl, Nat.zero_le _, rfl, rfl, Nat.le_refl _, hide rfl, hide (World.ownsRow_nil _ _ _ _), hide (Below.refl _ _), by omega⟩
  case round =>
    obtain ⟨j, m, ab, cb, rfl, hj, rfl, rfl, hm, Hm, HO, HB, hNw⟩ := hrel
    have hz := (unhide HZ).below ((unhide HB).mono hN)
    by_cases cj : j < z.length
    · obtain ⟨b, o, rfl, hb, x0, x1, x2, x3, x4⟩ := row_r hz j cj
      obtain ⟨ht1, ht2⟩ := unhide HT j cj
      generalize z[j] = x at *
      obtain ⟨n0, t0, k0, l0, d0⟩ := x
      simp only at x0 x1 x2 x3 x4 ht1 ht2
      clear hz
      by_cases cc : n0 = n ∧ t0 = t
      · have hT2 := ht1 cc
        have f1 := strs_eq cc.1
        have f2 : (t0 == t) = true := by rw [beq_iff_eq]; exact cc.2
        have HT2 := hide hT2
        clear ht1 ht2 cc hT2
        generalize ofP (z.take j) n t = Q at *
        go_wp2_with (at_builtin; refine wpList_append_row _ rfl _ _ 30 30 rfl N0 42 i0 (.agg #[.string ⟨#[]⟩, .int .i64 0, .int .i64 0, .int .i64 0, .string ⟨#[]⟩]) 5 56 Tryz.underlying30 (unhide Hi) (unhide Hz0) (unhide Hz1) (unhide Hz2) rfl (.slice ab m cb) m (rcI Q) (by rfl) ((unhide HO).alloc _) (.slice (some ⟨wr.heap.size, 0, none⟩) 1 1) 1 [.string n0, .int .i64 t0, .int .i64 k0, .int .i64 l0, .string d0] (by rfl) (Src.ofSlice _ Tryz.underlying30 ⟨wr.heap.size, 0, none⟩ 1 1 _ rfl (cell_five_new _ _ _ _ _ _ _ _ rfl) one5) (by unfold maxLen; omega) (by omega) (by simp; omega) ?_; intro a1 e1 w2 hown2 hgrow2 hat2)
        go_roundg (z.length + 1 - (j + 1))
        case measure => omega
        case rel =>
          refine ⟨j + 1, m + 1, a1, e1, by go_num, by omega, rfl, rfl, by omega, hide (by rw [unhide HT2, List.length_append, unhide Hm]; rfl), ?_, hide (((unhide HB).alloc hNw _).trans (below_append ((unhide HO).alloc _) hgrow2 (by simp; omega))), ?_⟩
          · rw [unhide HT2, rcI_more]; exact hide hown2
          · have := hgrow2.size; simp at this; omega
      · have hT2 := ht2 cc
        have hcase : (n0.toList == n.toList) = false ∨ ((n0.toList == n.toList) = true ∧ (t0 == t) = false) := by
          by_cases q : n0 = n
          · exact .inr ⟨strs_eq q, beq_eq_false_iff_ne.2 fun h => cc ⟨q, h⟩⟩
          · exact .inl (strs_ne q)
        have HT2 := hide hT2
        clear ht1 ht2 cc hT2
        rcases hcase with f1 | ⟨f1, f2⟩
        all_goals
          go_wp2_with fail
          go_roundg (z.length + 1 - (j + 1))
          case measure => omega
          case rel => exact ⟨j + 1, m, ab, cb, by go_num, by omega, rfl, rfl, by omega, hide (by rw [unhide HT2]; exact unhide Hm), hide (by rw [unhide HT2]; exact unhide HO), HB, hNw⟩
    · have ej : j = z.length := by omega
      subst ej
      have ho := unhide HO
      have hm2 := unhide Hm
      rw [List.take_length] at ho hm2
      subst hm2
      have HO2 := hide ho
      clear ho HO Hm hz
      go_wp2_with fail
      go_ret
      exact ⟨ab, cb, rfl, unhide HO2, unhide HB⟩


set_option maxRecDepth 100000 in
set_option maxHeartbeats 2000000 in
theorem there_w (z : List RI) (n : ByteArray) (az : Option Addr) (cz N : Nat) (w : World) (hz0 : RowAt w N az (rcI z)) (hl : z.length ≤ 134217728) (ht : ∀ i (h : i < z.length), Tl z[i].name 0 ∧ z[i].name.size ≤ 255) :
    Calls Tryz.prog 57 #[.slice az z.length cz, .string n] w fun e w' => e = .returned (.bool (hasP z n)) ∧ w' = w := by
  have HZ := hide hz0
  have HT := hide ht
  have HTk : Hid (∀ j (h : j < z.length), (z.take (j + 1)).any (fun x => withinAt x.name n 0) = ((z.take j).any (fun x => withinAt x.name n 0) || withinAt z[j].name n 0)) := fun j h => by
    rw [List.take_succ_eq_append_getElem h, List.any_append]
    simp
  have HAll : Hid (hasP z n = z.any fun x => withinAt x.name n 0) := rfl
  have HEnd : Hid (∀ j, (z.take j).any (fun x => withinAt x.name n 0) = true → hasP z n = true) := fun j h => by
    unfold hasP
    rw [List.any_eq_true] at h ⊢
    obtain ⟨x, hx, h2⟩ := h
    exact ⟨x, List.mem_of_mem_take hx, h2⟩
  obtain ⟨res, hres⟩ : ∃ res, hasP z n = res := ⟨_, rfl⟩
  rw [hres] at HAll HEnd ⊢
  clear hz0 ht hres
  go_enter Tryz.func57, Tryz.ntmps57
  go_wp2_with fail
  go_loopg [5] (z.length + 1) (fun g vi w' => ∃ j : Nat, vi = .int .i64 j ∧ j ≤ z.length ∧ g = z.length + 1 - j ∧ Hid ((z.take j).any (fun x => withinAt x.name n 0) = false) ∧ w' = w)
  case atStart => exact ⟨0, rfl, Nat.zero_le _, rfl, hide rfl, rfl⟩
  case round =>
    obtain ⟨j, rfl, hj, rfl, HA, rfl⟩ := hrel
    by_cases cj : j < z.length
    · obtain ⟨b, o, rfl, hb, x0, _⟩ := row_r (unhide HZ) j cj
      obtain ⟨t1, t2⟩ := unhide HT j cj
      have hk := unhide HTk j cj
      rw [unhide HA] at hk
      obtain ⟨zn, hzn⟩ : ∃ zn, z[j].name = zn := ⟨_, rfl⟩
      rw [hzn] at x0 t1 t2 hk
      have ka := atOrBelow_w zn n wr 0 t1
      rw [extract_all] at ka
      obtain ⟨r, hr⟩ : ∃ r, withinAt zn n 0 = r := ⟨_, rfl⟩
      rw [hr] at ka hk
      have KA := hide ka
      have HK := hide hk
      clear ka hk hr hzn t1
      go_wp2_with fail
      refine (unhide KA).mono ?_
      rintro e w1 ⟨rfl, rfl⟩
      cases r with
      | true =>
        have hT := unhide HEnd (j + 1) (unhide HK)
        subst hT
        go_wp2_with fail
        go_ret
        exact ⟨rfl, rfl⟩
      | false =>
        go_wp2_with fail
        go_roundg (z.length + 1 - (j + 1))
        case measure => omega
        case rel => exact ⟨j + 1, by go_num, by omega, rfl, hide (unhide HK), rfl⟩
    · have ej : j = z.length := by omega
      subst ej
      have h9 := unhide HA
      rw [List.take_length, ← unhide HAll] at h9
      subst h9
      go_wp2_with fail
      go_ret
      exact ⟨rfl, rfl⟩

end Go.Proofs.YtdhobdmhnocbgaaGreat

namespace Go.Proofs.YtdhobdmhnocbgaaGreat
open Go.RowKit Zr

section
variable {P : Program} {w : World}
/-- append onto an own row, in a plain region: the old row still reads as it did. -/
theorem wpList_append_kept {ops : Array Oper} {rest : List Oper} {o : Oper} {a : Act} {Q : Exit → Act → World → Prop} (hgd : o.guard = none) (s x : Operand) (t tx : TypeId)
    (ho : o.op = .call { callee := .builtin .append, args := #[s, x], argTypes := #[t, tx] })
    (base : Nat) (e : TypeId) (i : TypeInfo) (z : Value) (size bytes : Nat) (ht : P.underlying t = some (.slice e)) (hi : P.info? e = some i) (hz : i.zero = some z)
    (hsize : i.size = size) (hby : i.bytes = bytes) (hzs : z.cells.size = size)
    (v : Value) (n : Nat) (xs : List Value) (hs : a.eval s = v) (hown : w.ownsRow base e size v n xs)
    (y : Value) (m : Nat) (news : List Value) (hx : a.eval x = y) (hsrc : Src P size tx y m news w)
    (h63 : n + m ≤ maxLen) (hbytes : (n + m) * bytes ≤ 140737488355328) (hbase : base ≤ w.heap.size)
    (h : ∀ a' c' w', w'.ownsRow base e size (.slice a' (n + m) c') (n + m) (xs ++ news) → w.grownBy w' v.ownBlock → ((Value.slice a' (n + m) c').ownBlock = v.ownBlock ∨ (Value.slice a' (n + m) c').ownBlock = some w.heap.size) → (∀ g, v.ownBlock = some g → ∀ j u, xs[j]? = some u → w'.cell? ⟨g, j, none⟩ = some u) → wpList P ops Q rest (a.put o.dst (.slice a' (n + m) c')) w') : wpList P ops Q (o :: rest) a w := by
  refine wpList_plain hgd fun K hK => ?_
  obtain ⟨v', w', hr, h2, h3, h4⟩ := run_append_row (P := P) w base t tx o.type e i z size bytes ht hi hz hsize hby hzs v n xs hown y m news hsrc h63 hbytes hbase
  have h5 : ∀ g, v.ownBlock = some g → ∀ j u, xs[j]? = some u → w'.cell? ⟨g, j, none⟩ = some u := by
    intro g hg
    rcases hown.2 with ⟨rfl, _⟩ | ⟨g', cap, cur, hv, _⟩
    · cases hg
    · subst hv
      cases hg
      subst hsize
      subst hby
      exact run_append_row_cells t tx o.type e i z ht hi hz base g' n cap xs hown y m news hsrc h63 hbytes hr
  unfold Oper.wp execOp
  simp only [ho, resolve, invoke, builtin, Sem.run_bind, Sem.run_pure, Result.andThen_ok, List.map_toArray, List.map_cons, List.map_nil, hs, hx, hr]
  obtain ⟨a', c', rfl⟩ : ∃ a' c', v' = .slice a' (n + m) c' := by
    rcases h2.2 with ⟨g1, g2⟩ | ⟨g, cap, cur, g1, g2⟩
    · exact ⟨none, 0, by rw [g1, g2]⟩
    · exact ⟨_, _, g1⟩
  exact hK _ _ (h a' c' w' h2 h3 h4 h5)
end

theorem Tryz.info102 : (Tryz.prog.info? 102).map (fun i => (i.zero, i.size, i.bytes)) = some (some (.agg #[.int .i64 0, .slice none 0 0]), 2, 32) := by kernel_rfl

/-- Only blocks of sets, from N on, may have turned. -/
structure DFrame (N : Nat) (w w' : World) : Prop where
  os : w'.os = w.os
  tape : w'.tape = w.tape
  output : w'.output = w.output
  size : w.heap.size ≤ w'.heap.size
  low : ∀ k, k < N → k < w.heap.size → w'.heap[k]? = w.heap[k]?
  kind : ∀ (k : Nat) (cs : Array Value) (t : TypeId) (fr : Nat × Nat), w.heap[k]? = some (Obj.cells cs t fr) → t ≠ 102 → w'.heap[k]? = some (Obj.cells cs t fr)

theorem DFrame.refl (N : Nat) (w : World) : DFrame N w w := ⟨rfl, rfl, rfl, Nat.le_refl _, fun _ _ _ => rfl, fun _ _ _ _ h _ => h⟩
theorem DFrame.trans {N : Nat} {a b c : World} (h : DFrame N a b) (k : DFrame N b c) : DFrame N a c :=
  ⟨k.os.trans h.os, k.tape.trans h.tape, k.output.trans h.output, Nat.le_trans h.size k.size, fun i h1 h2 => (k.low i h1 (Nat.lt_of_lt_of_le h2 h.size)).trans (h.low i h1 h2), fun i cs t fr h1 h2 => k.kind i cs t fr (h.kind i cs t fr h1 h2) h2⟩
theorem DFrame.below {N : Nat} {w w' : World} (h : DFrame N w w') (hN : N ≤ w.heap.size) : Below N w w' := ⟨h.os, h.tape, h.output, h.size, fun k hk => h.low k hk (Nat.lt_of_lt_of_le hk hN)⟩
theorem DFrame.of_below {N : Nat} {w w' : World} (h : Below w.heap.size w w') : DFrame N w w' :=
  ⟨h.os, h.tape, h.output, h.size, fun k _ hk => h.block k hk, fun k _ _ _ hk _ => (h.block k (blk_lt hk)).trans hk⟩
theorem DFrame.of_append {N : Nat} {w w' : World} {size : Nat} {v : Value} {n : Nat} {xs : List Value} (hown : w.ownsRow N 102 size v n xs) (hg : w.grownBy w' v.ownBlock) : DFrame N w w' := by
  rcases hown.2 with ⟨rfl, _⟩ | ⟨g, cap, cur, rfl, hbg, hgg, _⟩
  · exact ⟨hg.os, hg.tape, hg.output, hg.size, fun k h1 h2 => hg.block k h2 (by simp [Value.ownBlock]), fun k _ _ _ h1 _ => (hg.block k (blk_lt h1) (by simp [Value.ownBlock])).trans h1⟩
  · have hg' : w.grownBy w' (some g) := hg
    refine ⟨hg.os, hg.tape, hg.output, hg.size, fun k h1 h2 => hg'.block k h2 (fun e => by cases e; omega), fun k cs' t' fr' h1 h2 => (hg'.block k (blk_lt h1) (fun e => ?_)).trans h1⟩
    cases e
    rw [hgg] at h1
    cases h1
    exact h2 rfl
theorem DFrame.mono {N M : Nat} {w w' : World} (h : DFrame N w w') (hM : M ≤ N) : DFrame M w w' := ⟨h.os, h.tape, h.output, h.size, fun k h1 h2 => h.low k (by omega) h2, h.kind⟩
theorem RecRow.dframe {N : Nat} {w w' : World} {a : Option Addr} {l : List RI} (h : RecRow w a l) (hf : DFrame N w w') : RecRow w' a l := by
  intro hl
  obtain ⟨g, o, cs, h1, h2, h3⟩ := h hl
  exact ⟨g, o, cs, h1, hf.kind g _ _ _ h2 (by decide), h3⟩

/-- The cells of the document's sets. -/
def DRow (w : World) (L : List ST) (xs : List Value) : Prop :=
  xs.length = L.length * 2 ∧ ∀ i (h : i < L.length), ∃ a c, xs[i * 2]? = some (.int .i64 (L[i].part : Nat)) ∧ xs[i * 2 + 1]? = some (.slice a L[i].l.length c) ∧ RecRow w a L[i].l ∧ L[i].l.length ≤ c
theorem DRow.nil (w : World) : DRow w [] [] := ⟨rfl, fun i h => by simp at h⟩
theorem DRow.frame {N : Nat} {w w' : World} {L : List ST} {xs : List Value} (h : DRow w L xs) (hf : DFrame N w w') : DRow w' L xs := by
  refine ⟨h.1, fun i hi => ?_⟩
  obtain ⟨a, c, h1, h2, h3, h4⟩ := h.2 i hi
  exact ⟨a, c, h1, h2, h3.dframe hf, h4⟩
theorem DRow.more {w : World} {L : List ST} {xs : List Value} (h : DRow w L xs) (s : ST) {a : Option Addr} {c : Nat} (hr : RecRow w a s.l) (hc : s.l.length ≤ c) : DRow w (L ++ [s]) (xs ++ [.int .i64 (s.part : Nat), .slice a s.l.length c]) := by
  obtain ⟨h1, h2⟩ := h
  refine ⟨by simp [h1]; omega, fun i hi => ?_⟩
  rcases Nat.lt_or_ge i L.length with k | k
  · obtain ⟨a', c', x1, x2, x3⟩ := h2 i k
    rw [List.getElem_append_left k]
    refine ⟨a', c', ?_, ?_, x3⟩ <;> rw [List.getElem?_append_left (by omega)] <;> assumption
  · have e : i = L.length := by simp at hi; omega
    subst e
    rw [List.getElem_append_right (Nat.le_refl _)]
    simp only [Nat.sub_self, List.getElem_cons_zero]
    refine ⟨a, c, ?_, ?_, hr, hc⟩
    · rw [List.getElem?_append_right (by omega), h1, Nat.sub_self]; rfl
    · rw [List.getElem?_append_right (by omega), h1, Nat.add_sub_cancel_left]; rfl

/-- Sets that a slice of the call's own holds. -/
def Ds (w : World) (N : Nat) (a : Option Addr) (c : Nat) (L : List ST) (xs : List Value) : Prop := w.ownsRow N 102 2 (.slice a L.length c) L.length xs ∧ DRow w L xs
theorem Ds.nil (w : World) (N : Nat) : Ds w N none 0 [] [] := ⟨World.ownsRow_nil _ _ _ _, DRow.nil w⟩
theorem Ds.below {w w' : World} {N : Nat} {a : Option Addr} {c : Nat} {L : List ST} {xs : List Value} (h : Ds w N a c L xs) (hb : Below w.heap.size w w') : Ds w' N a c L xs := ⟨owns_below h.1 hb, h.2.frame (DFrame.of_below (N := 0) hb)⟩

/-- What 'with' hands back: a row that begins as the old one; the old one reads as it did; nothing else of it has turned. -/
def WithOut (w : World) (N : Nat) (a : Option Addr) (c : Nat) (L : List ST) (xs : List Value) (R : List ST) (e : Ending) (w' : World) : Prop :=
  ∃ a' c' ys, e = .returned (.slice a' R.length c') ∧ Ds w' N a' c' R (xs ++ ys) ∧ DFrame N w w' ∧ ((Value.slice a' R.length c').ownBlock = (Value.slice a L.length c).ownBlock ∨ ∃ g, (Value.slice a' R.length c').ownBlock = some g ∧ w.heap.size ≤ g) ∧
    (∀ k, k < w.heap.size → some k ≠ (Value.slice a L.length c).ownBlock → w'.heap[k]? = w.heap[k]?) ∧ (∀ g, (Value.slice a L.length c).ownBlock = some g → ∀ j u, xs[j]? = some u → w'.cell? ⟨g, j, none⟩ = some u)

theorem wa_two_new (w : World) (B : Nat) (x0 x1 : Value) (t : TypeId) (h : w.heap.size = B) : ∀ j u, [x0, x1][j]? = some u → (w.alloc (.cells #[x0, x1] t)).cell? ((⟨B, 0, none⟩ : Addr).add j) = some u := by
  subst h
  exact World.news_of_block (cs := #[x0, x1]) (heap_alloc_new w _)
theorem one2s {x0 : Int} {a : Option Addr} {n c : Nat} : ∀ v ∈ ([.int .i64 x0, .slice a n c] : List Value), v.oneCell' = true := by
  intro v hv
  simp at hv
  rcases hv with rfl | rfl <;> rfl

set_option maxRecDepth 100000 in
set_option maxHeartbeats 2000000 in
theorem with_w (N : Nat) (a : Option Addr) (c : Nat) (L : List ST) (xs : List Value) (p : Nat) (z : List RI) (az : Option Addr) (cz : Nat) (n : ByteArray) (t : Int) (w : World) (hD : Ds w N a c L xs) (hN : N ≤ w.heap.size) (hz : RecRow w az z) (hl : z.length ≤ 134217728) (hL : L.length ≤ 134217728) :
    Calls Tryz.prog 58 #[.slice a L.length c, .int .i64 (p : Nat), .slice az z.length cz, .string n, .int .i64 t] w fun e w' => WithOut w N a c L xs (wantP z L p n t) e w' := by
  have K1 := hide (refOf_w z n t az cz w.heap.size w hz.row (Nat.le_refl _) hl)
  have HW : Hid ((ofP z n t = [] → wantP z L p n t = L) ∧ (¬ ofP z n t = [] → wantP z L p n t = L ++ [⟨p, t, ofP z n t⟩])) := ⟨fun h => by unfold wantP; rw [if_pos h], fun h => by unfold wantP; rw [if_neg h]⟩
  have hlen := ofP_len z n t
  obtain ⟨i0, hi, hz0, hz1, hz2⟩ := info_parts Tryz.info102
  have Hi := hide hi
  have Hz0 := hide hz0
  have Hz1 := hide hz1
  have Hz2 := hide hz2
  have HD := hide hD
  clear hi hz0 hz1 hz2 hD hz
  generalize wantP z L p n t = R at *
  generalize ofP z n t = Q at *
  go_enter Tryz.func58, Tryz.ntmps58
  go_wp2_with fail
  refine (unhide K1).mono ?_
  rintro e w1 ⟨aq, cq, rfl, o1, b1⟩
  obtain ⟨hr, hc⟩ := owns_recRow o1
  have HD1 := hide ((unhide HD).below b1)
  have HRec := hide hr
  have HB1 := hide b1
  have hs1 := b1.size
  clear o1 b1 hr K1
  by_cases cq0 : Q = []
  · have hR := (unhide HW).1 cq0
    subst hR
    subst cq0
    have hw : WithOut w N a c R xs R (.returned (.slice a R.length c)) w1 := by
      refine ⟨a, c, [], rfl, by rw [List.append_nil]; exact unhide HD1, DFrame.of_below (unhide HB1), .inl rfl, fun k hk _ => (unhide HB1).block k hk, fun g hg j u hu => ?_⟩
      rcases (unhide HD1).1.2 with ⟨h0, _⟩ | ⟨g', cap, cur, h0, _⟩
      · rw [h0] at hg; cases hg
      · cases h0
        cases hg
        have e := (unhide HD1).1.cells (g := g') rfl j u hu
        rw [Addr.add_lit, Nat.zero_add] at e
        exact e
    have HWo := hide hw
    clear hw
    go_wp2_with fail
    go_ret
    exact unhide HWo
  · have hR := (unhide HW).2 cq0
    have hq : 0 < Q.length := List.length_pos_iff.2 cq0
    have HR := hide hR
    have hqe : ((Q.length : Int) == 0) = false := by rw [beq_eq_false_iff_ne]; omega
    have hAl := (Below.refl w1.heap.size w1).alloc (Nat.le_refl _) (.cells #[.int .i64 (p : Nat), .slice aq Q.length cq] 102)
    have HOA := hide ((unhide HD1).below hAl)
    have HAl := hide hAl
    have HMore := hide (fun (W : World) (h1 : DRow W L xs) (h2 : RecRow W aq Q) => h1.more ⟨p, t, Q⟩ h2 hc)
    clear hR cq0 HW hAl
    go_wp2_with (at_builtin; refine wpList_append_kept rfl _ _ 57 57 rfl N 102 i0 (.agg #[.int .i64 0, .slice none 0 0]) 2 32 Tryz.underlying57 (unhide Hi) (unhide Hz0) (unhide Hz1) (unhide Hz2) rfl (.slice a L.length c) L.length xs (by rfl) (unhide HOA).1 (.slice (some ⟨w1.heap.size, 0, none⟩) 1 1) 1 [.int .i64 (p : Nat), .slice aq Q.length cq] (by rfl) (Src.ofSlice _ Tryz.underlying57 ⟨w1.heap.size, 0, none⟩ 1 1 _ rfl (wa_two_new _ _ _ _ _ rfl) one2s) (by unfold maxLen; omega) (by omega) (by simp; omega) ?_; intro a2 c2 w2 hown2 hgrow2 hat2 hkept2)
    have hF2 : DFrame N w w2 := (DFrame.of_below (unhide HB1)).trans ((DFrame.of_below (unhide HAl)).trans (DFrame.of_append (unhide HOA).1 hgrow2))
    have hw : WithOut w N a c L xs R (.returned (.slice a2 (L.length + 1) c2)) w2 := by
      have hRl : R.length = L.length + 1 := by rw [unhide HR, List.length_append]; rfl
      refine ⟨a2, c2, [.int .i64 (p : Nat), .slice aq Q.length cq], by rw [hRl], ⟨by rw [hRl]; exact hown2, ?_⟩, hF2, ?_, fun k hk hne => ?_, hkept2⟩
      · rw [unhide HR]
        exact unhide HMore _ ((unhide HOA).2.frame (DFrame.of_append (unhide HOA).1 hgrow2)) (((unhide HRec).dframe (DFrame.of_below (N := N) (unhide HAl))).dframe (DFrame.of_append (unhide HOA).1 hgrow2))
      · rw [hRl]
        rcases hat2 with q | q
        · exact .inl q
        · refine .inr ⟨_, q, ?_⟩
          have := (unhide HAl).size
          omega
      · have h1 := (unhide HB1).block k hk
        have h2 := (unhide HAl).block k (by omega)
        exact (hgrow2.block k (by have := (unhide HAl).size; omega) hne).trans (h2.trans h1)
    have HWo := hide hw
    clear hw
    go_wp2_with fail
    go_ret
    exact unhide HWo

end Go.Proofs.YtdhobdmhnocbgaaGreat

namespace Go.Proofs.YtdhobdmhnocbgaaGreat
open Go.RowKit Zr

/-- The program looks whether it has the set; the document, whether a record of it stood before. -/
theorem has_of (z : List RI) (n : ByteArray) (t : Int) : ∀ j, j ≤ z.length → (ofP (z.take j) n t = [] ↔ hasSetP (wantTo z n [] j) t = false)
  | 0, _ => by simp [ofP, wantTo, hasSetP]
  | j + 1, hj => by
    have ih := has_of z n t j (by omega)
    obtain ⟨o1, o2⟩ := ofP_take z n t j (by omega)
    rw [wantTo_step z n [] j (by omega)]
    by_cases c : z[j].name = n ∧ hasSetP (wantTo z n [] j) z[j].ty = false
    · rw [if_pos c]
      have hne : ¬ ofP z n z[j].ty = [] := fun e => by
        have : z[j] ∈ ofP z n z[j].ty := List.mem_filter.2 ⟨List.getElem_mem (by omega), decide_eq_true ⟨c.1, rfl⟩⟩
        rw [e] at this
        simp at this
      unfold wantP
      rw [if_neg hne]
      have hs : hasSetP (wantTo z n [] j ++ [⟨0, z[j].ty, ofP z n z[j].ty⟩]) t = (hasSetP (wantTo z n [] j) t || decide (z[j].ty = t)) := by
        unfold hasSetP
        rw [List.any_append]
        simp
      rw [hs]
      by_cases ct : z[j].ty = t
      · rw [o1 ⟨c.1, ct⟩, decide_eq_true ct]
        simp
      · rw [o2 (fun h => ct h.2), decide_eq_false ct, Bool.or_false]
        exact ih
    · rw [if_neg c]
      by_cases cn : z[j].name = n ∧ z[j].ty = t
      · rw [o1 cn]
        have hh : hasSetP (wantTo z n [] j) t = true := by
          cases h : hasSetP (wantTo z n [] j) t with
          | true => rfl
          | false => exact absurd ⟨cn.1, by rw [cn.2]; exact h⟩ c
        rw [hh]
        simp
      · rw [o2 cn]
        exact ih

/-- New sets that come out. -/
def SetsOut (w : World) (R : List ST) (e : Ending) (w' : World) : Prop := ∃ a c xs, e = .returned (.slice a R.length c) ∧ Ds w' w.heap.size a c R xs ∧ DFrame w.heap.size w w'

set_option maxRecDepth 100000 in
set_option maxHeartbeats 4000000 in
theorem asked_w (z : List RI) (n : ByteArray) (t : Int) (az : Option Addr) (cz : Nat) (w : World) (hz : RecRow w az z) (hcz : z.length ≤ cz) (hl : z.length ≤ 16777216) :
    Calls Tryz.prog 59 #[.slice az z.length cz, .string n, .int .i64 t] w fun e w' => SetsOut w (answP z [] n t) e w' := by
  have HZ := hide hz
  by_cases ct : t = 255
  · have hA : answP z [] n t = wantTo z n [] z.length := by unfold answP; rw [if_pos ct]
    rw [hA]
    subst ct
    have HSt := hide (fun j (h : j < z.length) => wantTo_step z n [] j h)
    have HHas := hide (fun j t (h : j ≤ z.length) => has_of z n t j h)
    have HWl := hide (fun j => wantTo_len z n [] j)
    clear hA hz
    obtain ⟨N, hN⟩ : ∃ N, w.heap.size = N := ⟨_, rfl⟩
    have HOut : Hid (∀ e w', (∃ a c xs, e = .returned (.slice a (wantTo z n [] z.length).length c) ∧ Ds w' N a c (wantTo z n [] z.length) xs ∧ DFrame N w w') → SetsOut w (wantTo z n [] z.length) e w') := fun e w' h => by unfold SetsOut; rw [hN]; exact h
    go_enter Tryz.func59, Tryz.ntmps59
    go_wp2_with fail
    go_loopg [7, 8] (z.length + 1) (fun g vs vi w' => ∃ (j : Nat) (a : Option Addr) (c m : Nat) (xs : List Value), vi = .int .i64 j ∧ j ≤ z.length ∧ g = z.length + 1 - j ∧ vs = .slice a m c ∧ Hid ((wantTo z n [] j).length = m) ∧ Hid (Ds w' N a c (wantTo z n [] j) xs) ∧ Hid (DFrame N w w') ∧ N ≤ w'.heap.size)
    case atStart => exact ⟨0, none, 0, 0, [], rfl, Nat.zero_le _, rfl, rfl, hide rfl, hide (Ds.nil _ _), hide (DFrame.refl _ _), by omega⟩
    case round =>
      obtain ⟨j, a, c, m, xs, rfl, hj, rfl, rfl, HLn, HD, HF, hNw⟩ := hrel
      by_cases cj : j < z.length
      · have hzr := (unhide HZ).dframe (unhide HF)
        obtain ⟨b, o, hab, hb, x0, x1, _⟩ := row_r hzr.row j cj
        have hst := unhide HSt j cj
        have hhas := unhide HHas j z[j].ty hj
        have hwl := unhide HWl j
        rw [unhide HLn, List.length_nil, Nat.zero_add] at hwl
        have hlt : (z.take j).length = j := by rw [List.length_take]; omega
        have hzt : RowAt wr wr.heap.size az (rcI (z.take j)) := by
          have h9 := hzr.row
          rw [← List.take_append_drop j z, rcI_cat] at h9
          intro hx
          obtain ⟨b', o', h1, h2, h3⟩ := h9 (fun e => hx (List.append_eq_nil_iff.1 e).1)
          refine ⟨b', o', h1, h2, fun i u hu => h3 i u ?_⟩
          rw [List.getElem?_append_left (List.getElem?_eq_some_iff.1 hu).1]
          exact hu
        obtain ⟨zt, hzt0⟩ : ∃ zt, z[j].ty = zt := ⟨_, rfl⟩
        obtain ⟨zn, hzn0⟩ : ∃ zn, z[j].name = zn := ⟨_, rfl⟩
        rw [hzt0] at x1 hst hhas
        rw [hzn0] at x0 hst
        have ko := fun (W : World) (h : Below wr.heap.size wr W) => refOf_w (z.take j) n zt az cz wr.heap.size W (hzt.below h) h.size (by omega)
        rw [hlt] at ko
        have KO := hide ko
        have HSt2 := hide hst
        have HHas2 := hide hhas
        obtain ⟨Q, hQ⟩ : ∃ Q, ofP (z.take j) n zt = Q := ⟨_, rfl⟩
        have hql := ofP_len (z.take j) n zt
        rw [hQ] at KO HHas2 hql
        have HZr := hide hzr
        subst hab
        have q3 : (j : Int) ≤ (cz : Int) := by omega
        clear ko hst hhas hzt hzr hzt0 hzn0 hQ
        go_upto_region 6 with fail
        go_cut [9] (fun v w' => ∃ aq cq, v = .slice aq Q.length cq ∧ Hid (Below wr.heap.size wr w'))
        case first =>
          go_region_with (first | (go_at_call 93; refine (unhide KO wr.drew (below_drew (Below.refl _ _))).mono ?_; rintro e w1 ⟨aq, cq, rfl, _, hb1⟩))
          all_goals go_wp2_with fail
          all_goals go_meet
          all_goals exact ⟨aq, cq, rfl, hide (below_undrew hb1)⟩
        case rest =>
          obtain ⟨aq, cq, rfl, HC⟩ := hcut
          have hbw : b < wr.heap.size := hb
          have y0 := ((unhide HC).cell (p := ⟨b, o + j * 5, none⟩) hbw).trans x0
          have y1 := ((unhide HC).cell (p := ⟨b, o + j * 5 + 1, none⟩) hbw).trans x1
          have hbc : b < wc.heap.size := Nat.lt_of_lt_of_le hbw (unhide HC).size
          have HD2 := hide ((unhide HD).below (unhide HC))
          have HF2 := hide ((unhide HF).trans (DFrame.of_below (N := N) (unhide HC)))
          have HZ2 := hide ((unhide HZr).below (unhide HC))
          have hN2 : N ≤ wc.heap.size := Nat.le_trans hNw (unhide HC).size
          clear x0 x1 hb hbw HC HD HF HZr KO hNw
          by_cases c1 : zn = n
          · have f1 := strs_eq c1
            by_cases c2 : Q = []
            · have hcond : zn = n ∧ hasSetP (wantTo z n [] j) zt = false := ⟨c1, (unhide HHas2).1 c2⟩
              have hst := unhide HSt2
              rw [if_pos hcond] at hst
              have HS3 := hide hst
              have kw := with_w N a c (wantTo z n [] j) xs 0 z _ cz n zt wc (unhide HD2) hN2 (unhide HZ2) (by omega) (by rw [unhide HLn]; omega)
              rw [← hst, unhide HLn] at kw
              have KW := hide kw
              subst c2
              clear hst kw hcond c1
              go_wp2_with fail
              refine (unhide KW).mono ?_
              rintro e w2 ⟨a2, c2, ys, rfl, hD2, hF2, _⟩
              have HD3 := hide hD2
              have HF3 := hide ((unhide HF2).trans hF2)
              have hN3 : N ≤ w2.heap.size := Nat.le_trans hN2 hF2.size
              clear hD2 hF2 KW
              go_wp2_with fail
              go_roundg (z.length + 1 - (j + 1))
              case measure => omega
              case rel => exact ⟨j + 1, a2, c2, _, _, by go_num, by omega, rfl, rfl, hide rfl, HD3, HF3, hN3⟩
            · have hst := unhide HSt2
              rw [if_neg (fun h => c2 ((unhide HHas2).2 h.2))] at hst
              have hq0 : 0 < Q.length := List.length_pos_iff.2 c2
              have f2 : ((Q.length : Int) == 0) = false := by rw [beq_eq_false_iff_ne]; omega
              have HS3 := hide hst
              clear hst c1 c2
              go_wp2_with fail
              go_roundg (z.length + 1 - (j + 1))
              case measure => omega
              case rel => exact ⟨j + 1, a, c, m, xs, by go_num, by omega, rfl, rfl, hide (by rw [unhide HS3]; exact unhide HLn), hide (by rw [unhide HS3]; exact unhide HD2), HF2, hN2⟩
          · have f1 := strs_ne c1
            have hst := unhide HSt2
            rw [if_neg (fun h => c1 h.1)] at hst
            have HS3 := hide hst
            clear hst c1
            go_wp2_with fail
            go_roundg (z.length + 1 - (j + 1))
            case measure => omega
            case rel => exact ⟨j + 1, a, c, m, xs, by go_num, by omega, rfl, rfl, hide (by rw [unhide HS3]; exact unhide HLn), hide (by rw [unhide HS3]; exact unhide HD2), HF2, hN2⟩
      · have ej : j = z.length := by omega
        subst ej
        have hln := unhide HLn
        subst hln
        go_wp2_with fail
        go_ret
        exact unhide HOut _ _ ⟨a, c, xs, rfl, unhide HD, unhide HF⟩
  · have hA : answP z [] n t = if t = 5 then wantP z [] 0 n 5 else wantP z (wantP z [] 0 n 5) 0 (aimP z n) t := by unfold answP; rw [if_neg ct]
    have f0 : (t == 255) = false := by rw [beq_eq_false_iff_ne]; exact ct
    have K0 := hide (refOf_w z n 5 az cz w.heap.size w hz.row (Nat.le_refl _) (by omega))
    have hql := ofP_len z n 5
    obtain ⟨R, hR⟩ : ∃ R, answP z [] n t = R := ⟨_, rfl⟩
    rw [hR] at hA ⊢
    have HA := hide hA
    have HQd : Hid (∀ x X, ofP z n 5 = x :: X → aimP z n = x.data) := fun x X h => by unfold aimP; rw [h]
    have HQn : Hid (ofP z n 5 = [] → aimP z n = n ∧ wantP z [] 0 n 5 = []) := fun h => ⟨by unfold aimP; rw [h], by unfold wantP; rw [if_pos h]⟩
    have hwl := wantP_len z [] 0 n 5
    have HOne : Hid (t = 5 ∨ ofP z n 5 = [] → R = wantP z [] 0 n t) := fun h => by
      rw [hA]
      by_cases c5 : t = 5
      · rw [if_pos c5, c5]
      · rw [if_neg c5]
        rcases h with h | h
        · exact absurd h c5
        · obtain ⟨q1, q2⟩ := unhide HQn h
          rw [q1, q2]
    clear hA hR hz
    go_enter Tryz.func59, Tryz.ntmps59
    go_wp2_with fail
    refine (unhide K0).mono ?_
    rintro e w1 ⟨aq, cq, rfl, hoq, hb1⟩
    have HQr := hide (owns_recRow hoq).1
    have HB1 := hide hb1
    have HZ1 := hide ((unhide HZ).below hb1)
    have hs1 := hb1.size
    obtain ⟨Q, hQ⟩ : ∃ Q, ofP z n 5 = Q := ⟨_, rfl⟩
    rw [hQ] at HQd HQn HOne HQr hql ⊢
    clear hoq hb1 K0 hQ HZ
    by_cases c0 : t = 5 ∨ Q = []
    · have hR := unhide HOne c0
      have kw := with_w w.heap.size none 0 [] [] 0 z az cz n t w1 (Ds.nil _ _) hs1 (unhide HZ1) (by omega) (by simp)
      rw [← hR] at kw
      have KW := hide kw
      clear kw hR
      by_cases c5 : t = 5
      · subst c5
        by_cases q : (0 : Int) < (Q.length : Int)
        · have f1 := decide_eq_true q
          clear c0
          go_wp2_with fail
          refine (unhide KW).mono ?_
          rintro e w2 ⟨a2, c2, ys, rfl, hD2, hF2, _⟩
          have HO2 : Hid (SetsOut w R (.returned (.slice a2 R.length c2)) w2) := ⟨a2, c2, _, rfl, hD2, (DFrame.of_below (unhide HB1)).trans hF2⟩
          clear hD2 hF2
          go_wp2_with fail
          go_ret
          exact unhide HO2
        · have f1 := decide_eq_false q
          clear c0
          go_wp2_with fail
          refine (unhide KW).mono ?_
          rintro e w2 ⟨a2, c2, ys, rfl, hD2, hF2, _⟩
          have HO2 : Hid (SetsOut w R (.returned (.slice a2 R.length c2)) w2) := ⟨a2, c2, _, rfl, hD2, (DFrame.of_below (unhide HB1)).trans hF2⟩
          clear hD2 hF2
          go_wp2_with fail
          go_ret
          exact unhide HO2
      · have hq0 : Q = [] := by
          rcases c0 with h | h
          · exact absurd h c5
          · exact h
        subst hq0
        clear c0
        go_wp2_with fail
        refine (unhide KW).mono ?_
        rintro e w2 ⟨a2, c2, ys, rfl, hD2, hF2, _⟩
        have HO2 : Hid (SetsOut w R (.returned (.slice a2 R.length c2)) w2) := ⟨a2, c2, _, rfl, hD2, (DFrame.of_below (unhide HB1)).trans hF2⟩
        clear hD2 hF2
        go_wp2_with fail
        go_ret
        exact unhide HO2
    · have c5 : t ≠ 5 := fun h => c0 (.inl h)
      have cq : Q ≠ [] := fun h => c0 (.inr h)
      obtain ⟨x, X, hx⟩ := List.exists_cons_of_ne_nil cq
      have hq0 : 0 < Q.length := List.length_pos_iff.2 cq
      have f1 : decide ((0 : Int) < (Q.length : Int)) = true := decide_eq_true (by omega)
      have f2 : (t != 5) = true := bne_iff_ne.2 c5
      have hR := unhide HA
      rw [if_neg c5, unhide HQd x X hx] at hR
      have kw := with_w w.heap.size none 0 [] [] 0 z az cz n 5 w1 (Ds.nil _ _) hs1 (unhide HZ1) (by omega) (by simp)
      have KW := hide kw
      have HRr := hide hR
      have hxx : Q[0] = x := by simp only [hx, List.getElem_cons_zero]
      obtain ⟨b, o, hab, hb, _, _, _, _, x4⟩ := row_r (unhide HQr).row 0 hq0
      rw [hxx] at x4
      subst hab
      simp only [Nat.zero_mul, Nat.add_zero] at x4
      obtain ⟨xd, hxd⟩ : ∃ xd, x.data = xd := ⟨_, rfl⟩
      rw [hxd] at HRr x4
      clear kw hR c0 hx hxx hxd c5 cq
      go_wp2_with fail
      refine (unhide KW).mono ?_
      rintro e w2 ⟨a2, c2, ys, rfl, hD2, hF2, _⟩
      have y4 : w2.cell? ⟨b, o + 4, none⟩ = some (.string xd) := by
        obtain ⟨g, og, cs, hg1, hg2, hg3⟩ := unhide HQr (List.length_pos_iff.1 hq0)
        cases hg1
        have h9 := hF2.kind _ _ _ _ hg2 (by decide)
        rw [cell_of_blk h9, ← cell_of_blk hg2]
        exact x4
      have hb2 : b < w2.heap.size := Nat.lt_of_lt_of_le hb hF2.size
      have hs2 := hF2.size
      have kw2 := with_w w.heap.size a2 c2 (wantP z [] 0 n 5) ([] ++ ys) 0 z az cz xd t w2 hD2 (by omega) ((unhide HZ1).dframe hF2) (by omega) (by simp only [List.length_nil] at hwl; omega)
      rw [← unhide HRr] at kw2
      have KW2 := hide kw2
      have HF2 := hide ((DFrame.of_below (N := w.heap.size) (unhide HB1)).trans hF2)
      clear kw2 hD2 hF2 x4 hb KW
      go_wp2_with fail
      refine (unhide KW2).mono ?_
      rintro e w3 ⟨a3, c3, ys3, rfl, hD3, hF3, _⟩
      have HO3 : Hid (SetsOut w R (.returned (.slice a3 R.length c3)) w3) := ⟨a3, c3, _, rfl, hD3, (unhide HF2).trans hF3⟩
      clear hD3 hF3
      go_wp2_with fail
      go_ret
      exact unhide HO3

end Go.Proofs.YtdhobdmhnocbgaaGreat

namespace Go.Proofs.YtdhobdmhnocbgaaGreat
open Go.RowKit Zr

theorem dv_at {w : World} {M : Nat} {a : Option Addr} {L : List ST} {xs : List Value} (hr : RowAt w M a xs) (hd : DRow w L xs) (i : Nat) (hi : i < L.length) :
    ∃ g o al cl, a = some ⟨g, o, none⟩ ∧ g < M ∧ w.cell? ⟨g, o + i * 2, none⟩ = some (.int .i64 (L[i].part : Nat)) ∧ w.cell? ⟨g, o + i * 2 + 1, none⟩ = some (.slice al L[i].l.length cl) ∧ RecRow w al L[i].l ∧ L[i].l.length ≤ cl := by
  obtain ⟨al, cl, h1, h2, h3, h4⟩ := hd.2 i hi
  obtain ⟨g, o, e1, e2, e3⟩ := hr (fun e => by rw [e] at h1; simp at h1)
  exact ⟨g, o, al, cl, e1, e2, e3 _ _ h1, e3 _ _ h2, h3, h4⟩

/-- Each set has a record, of the set's own type. -/
def Typed (L : List ST) : Prop := ∀ i (h : i < L.length), ∃ x X, L[i].l = x :: X ∧ x.ty = L[i].kind
theorem typed_answ (z : List RI) (n : ByteArray) (t : Int) : Typed (answP z [] n t) := fun i h => by
  obtain ⟨m, h1, h2⟩ := KindZ.answ z n t _ (List.getElem_mem h)
  obtain ⟨x, X, hx⟩ := List.exists_cons_of_ne_nil h2
  refine ⟨x, X, hx, ?_⟩
  have : x ∈ ofP z m (answP z [] n t)[i].kind := by rw [← h1, hx]; simp
  exact (of_mem this).2.2

set_option maxRecDepth 100000 in
set_option maxHeartbeats 2000000 in
theorem typed_w (L : List ST) (t : Int) (a : Option Addr) (c M : Nat) (xs : List Value) (w : World) (hr : RowAt w M a xs) (hd : DRow w L xs) (hM : M ≤ w.heap.size) (hk : Typed L) (hl : L.length ≤ 134217728) :
    Calls Tryz.prog 60 #[.slice a L.length c, .int .i64 t] w fun e w' => e = .returned (.bool (answersP L t)) ∧ w' = w := by
  have HR := hide hr
  have HD := hide hd
  have HK := hide hk
  have HTk : Hid (∀ j (h : j < L.length), (L.take (j + 1)).any (fun s => decide (s.kind = t)) = ((L.take j).any (fun s => decide (s.kind = t)) || decide (L[j].kind = t))) := fun j h => by
    rw [List.take_succ_eq_append_getElem h, List.any_append]
    simp
  clear hr hd hk
  by_cases ct : t = 255
  · subst ct
    have hA : answersP L 255 = decide (0 < L.length) := by unfold answersP; rw [if_pos rfl]
    rw [hA]
    clear hA HTk
    cases L with
    | nil =>
      go_enter Tryz.func60, Tryz.ntmps60
      go_wp2_with fail
      go_loopg [5] 1 (fun g vi w' => vi = .int .i64 0 ∧ w' = w)
      case atStart => exact ⟨rfl, rfl⟩
      case round =>
        obtain ⟨rfl, rfl⟩ := hrel
        go_wp2_with fail
        go_ret
        exact ⟨rfl, rfl⟩
    | cons s S =>
      obtain ⟨g, o, al, cl, rfl, hg, x0, x1, hrec, _⟩ := dv_at (unhide HR) (unhide HD) 0 (by simp)
      rw [decide_eq_true (by simp : 0 < (s :: S).length)]
      have hl1 : 0 < (s :: S).length := by simp
      generalize (s :: S).length = n at *
      go_enter Tryz.func60, Tryz.ntmps60
      go_wp2_with fail
      go_loopg [5] 1 (fun g vi w' => vi = .int .i64 0 ∧ w' = w)
      case atStart => exact ⟨rfl, rfl⟩
      case round =>
        obtain ⟨rfl, rfl⟩ := hrel
        go_wp2_with fail
        go_ret
        exact ⟨rfl, rfl⟩
  · have hA : answersP L t = L.any fun s => decide (s.kind = t) := by unfold answersP hasSetP; rw [if_neg ct]
    have f0 : (t == 255) = false := by rw [beq_eq_false_iff_ne]; exact ct
    rw [hA]
    have HEnd : Hid (∀ j, (L.take j).any (fun s => decide (s.kind = t)) = true → (L.any fun s => decide (s.kind = t)) = true) := fun j h => by
      rw [List.any_eq_true] at h ⊢
      obtain ⟨x, hx, h2⟩ := h
      exact ⟨x, List.mem_of_mem_take hx, h2⟩
    have HAll : Hid ((L.any fun s => decide (s.kind = t)) = (L.take L.length).any fun s => decide (s.kind = t)) := hide (by rw [List.take_length])
    obtain ⟨res, hres⟩ : ∃ res, (L.any fun s => decide (s.kind = t)) = res := ⟨_, rfl⟩
    rw [hres] at HEnd HAll ⊢
    clear hA hres ct
    go_enter Tryz.func60, Tryz.ntmps60
    go_wp2_with fail
    go_loopg [5] (L.length + 1) (fun g vi w' => ∃ j : Nat, vi = .int .i64 j ∧ j ≤ L.length ∧ g = L.length + 1 - j ∧ Hid ((L.take j).any (fun s => decide (s.kind = t)) = false) ∧ w' = w)
    case atStart => exact ⟨0, rfl, Nat.zero_le _, rfl, hide rfl, rfl⟩
    case round =>
      obtain ⟨j, rfl, hj, rfl, HN, rfl⟩ := hrel
      by_cases cj : j < L.length
      · obtain ⟨g, o, al, cl, hga, hg, x0, x1, hrec, hcl⟩ := dv_at (unhide HR) (unhide HD) j cj
        obtain ⟨x, X, hx, hxt⟩ := unhide HK j cj
        have hk := unhide HTk j cj
        rw [unhide HN] at hk
        rw [← hxt] at hk
        have hlp : 0 < L[j].l.length := by rw [hx]; simp
        obtain ⟨b, p, hab, hb, _, y1, _⟩ := row_r hrec.row 0 hlp
        have h0 : L[j].l[0] = x := by simp only [hx, List.getElem_cons_zero]
        rw [h0] at y1
        subst hga
        subst hab
        simp only [Nat.zero_mul, Nat.add_zero] at y1
        obtain ⟨xt, hxt0⟩ : ∃ xt, x.ty = xt := ⟨_, rfl⟩
        obtain ⟨ln, hln⟩ : ∃ ln, L[j].l.length = ln := ⟨_, rfl⟩
        rw [hxt0] at y1 hk
        rw [hln] at x1 hlp
        have hgw : g < wr.heap.size := by omega
        have HK2 := hide hk
        clear hk hx hxt h0 hrec hxt0 hln x0
        by_cases ce : xt = t
        · have f1 : (xt == t) = true := by rw [beq_iff_eq]; exact ce
          have hT := unhide HEnd (j + 1) (by rw [unhide HK2, decide_eq_true ce]; rfl)
          subst hT
          clear ce
          go_wp2_with fail
          go_ret
          exact ⟨rfl, rfl⟩
        · have f1 : (xt == t) = false := by rw [beq_eq_false_iff_ne]; exact ce
          have HN2 : Hid ((L.take (j + 1)).any (fun s => decide (s.kind = t)) = false) := hide (by rw [unhide HK2, decide_eq_false ce]; rfl)
          clear ce
          go_wp2_with fail
          go_roundg (L.length + 1 - (j + 1))
          case measure => omega
          case rel => exact ⟨j + 1, by go_num, by omega, rfl, HN2, rfl⟩
      · have ej : j = L.length := by omega
        subst ej
        have h9 := unhide HN
        rw [← unhide HAll] at h9
        subst h9
        go_wp2_with fail
        go_ret
        exact ⟨rfl, rfl⟩

end Go.Proofs.YtdhobdmhnocbgaaGreat
