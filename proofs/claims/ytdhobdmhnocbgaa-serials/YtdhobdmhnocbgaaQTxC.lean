/-
  Walks over the document's own answer: data are written.
-/
import Derived.Test.YtdhobdmhnocbgaaQTxB
import Derived.Test.YtdhobdmhnocbgaaQMsgy
namespace Go.Proofs.Ytdhobdmhnocbgaa
open Go.RowKit Zr

/-- A name without a pointer, at the front of what stands behind. -/
theorem flat_front (d x : ByteArray) (q : Nat) (h : nameAt d q = .ok (x, x.size)) : q + x.size ≤ d.size ∧ lenN (d.extract q d.size) = x.size ∧ (d.extract q d.size).extract 0 x.size = x ∧ (d.extract q d.size).extract x.size (d.extract q d.size).size = d.extract (q + x.size) d.size := by
  have h1 := nm_noptr d _ q q 0 x x.size h rfl
  obtain ⟨h2, h3⟩ := nm_bytes d _ q 0 x x.size h1
  have hw := name_whole d q x x.size h
  have hp := whole_pos hw
  have hs : (d.extract q d.size).size = d.size - q := by rw [ByteArray.size_extract]; omega
  have e1 : d.extract q d.size = x ++ d.extract (q + x.size) d.size := by
    conv => rhs; lhs; rw [h2]
    rw [extract_join d q _ _ (by omega) h3 (Nat.le_refl _)]
  refine ⟨h3, ?_, ?_, ?_⟩
  · rw [e1, lenN_head x _ hw]
  · rw [ext_ext d q 0 x.size (by omega) (by omega) h3, Nat.add_zero, ← h2]
  · rw [hs, ext_ext d q x.size (d.size - q) (by omega) (by omega) (by omega), show q + (d.size - q) = d.size by omega]

theorem cut_place (K : List (ByteArray × Nat)) (d : ByteArray) (p : Nat) : ∀ j, (∀ i, i < j → ∃ x, nameAt d (sdTo K d p i).2.2 = .ok (x, x.size)) → cutTo d j = d.extract (sdTo K d p j).2.2 d.size := by
  intro j
  induction j with
  | zero => intro _; show d = d.extract 0 d.size; rw [extract_all]
  | succ j ih =>
    intro h
    obtain ⟨x, hx⟩ := h j (by omega)
    have h1 := ih (fun i hi => h i (by omega))
    obtain ⟨f1, f2, f3, f4⟩ := flat_front d x _ hx
    rw [cutTo, h1, f2, f4, sd_next K d p j x x.size hx]

theorem extract_front (x c : ByteArray) : (x ++ c).extract 0 x.size = x := by
  apply bt_ext
  · rw [ByteArray.size_extract, ByteArray.size_append]; omega
  · intro i hi
    have hi' : i < x.size := by rw [ByteArray.size_extract] at hi; omega
    rw [bt_ex _ _ _ i (by omega) (by rw [ByteArray.size_append]; omega), bt_append, if_pos (by omega), Nat.zero_add]

theorem tx_set {w : World} {N T : Nat} {B : ByteArray} {K : List (ByteArray × Nat)} (h : Tx w N T B K) (B' : ByteArray) : Tx (w.setCell ⟨T, 0, none⟩ (.string B')) N T B' K ∧ TFrame N w (w.setCell ⟨T, 0, none⟩ (.string B')) := by
  obtain ⟨ah, ch, hR, hN, o1⟩ := h
  exact ⟨⟨ah, ch, (blk_set hR 0 _).trans rfl, hN, owns_set_kind o1 hR (by decide) 0 _⟩, TFrame.of_grown (grown_set _ T 0 _) hN hR (.inr rfl)⟩

set_option maxRecDepth 100000 in
set_option maxHeartbeats 4000000 in
theorem data_t (N T : Nat) (B : ByteArray) (K : List (ByteArray × Nat)) (t : Nat) (d : ByteArray) (w : World) (h : Tx w N T B K) (hK : K.length ≤ 200000) (hO : KOk K) (hB : B.size ≤ 200000) (hI : Inv (fun _ => False) B K) (hd : wellD t d) :
    Calls Try.prog 89 #[.pointer (some ⟨T, 0, none⟩), .int .i64 t, .string d] w fun e w' => e = .returned (.tuple #[]) ∧ Tx w' N T (B ++ wd (sdata K d t (B.size + 2)).1.size ++ (sdata K d t (B.size + 2)).1) (sdata K d t (B.size + 2)).2 ∧ TFrame N w w' := by
  have hlt := h.lt
  have hds := hd.1
  have hfn := wellD_flatNames K d t (B.size + 2) hd
  have hle := sdata_le K d t (B.size + 2) hd
  have hinv : ∀ j, j ≤ namesOf t → Inv (fun i => B.size ≤ i ∧ i < B.size + 2) (B ++ wd 0 ++ (sdTo K d (B.size + 2) j).1) (sdTo K d (B.size + 2) j).2.1 := by
    intro j hj
    have e : (B ++ wd 0).size = B.size + 2 := by rw [ByteArray.size_append, wd_size]
    have h1 := sd_inv B K d hI (wd 0) j (fun i hi => by rw [e]; exact hfn i (by omega))
    rw [e] at h1
    exact h1
  have hbd := sd_bounds K d (B.size + 2) hO
  have hm2 := namesOf_le t
  have hS : sdata K d t (B.size + 2) = ((sdTo K d (B.size + 2) (namesOf t)).1 ++ cutTo d (namesOf t), (sdTo K d (B.size + 2) (namesOf t)).2.1) := by
    rw [cut_place K d (B.size + 2) (namesOf t) hfn]; rfl
  have hcut : ∀ j, j < namesOf t → ∃ x, wholeB x = true ∧ lenN (cutTo d j) = x.size ∧ (cutTo d j).extract 0 x.size = x ∧ (cutTo d j).extract x.size (cutTo d j).size = cutTo d (j + 1) ∧
      sdTo K d (B.size + 2) (j + 1) = ((sdTo K d (B.size + 2) j).1 ++ (short (sdTo K d (B.size + 2) j).2.1 x (B.size + 2 + (sdTo K d (B.size + 2) j).1.size)).1, (sdTo K d (B.size + 2) j).2.1 ++ (short (sdTo K d (B.size + 2) j).2.1 x (B.size + 2 + (sdTo K d (B.size + 2) j).1.size)).2, (sdTo K d (B.size + 2) j).2.2 + x.size) := by
    intro j hj
    obtain ⟨x, hx⟩ := hfn j hj
    obtain ⟨f1, f2, f3, f4⟩ := flat_front d x _ hx
    have h1 := cut_place K d (B.size + 2) j (fun i hi => hfn i (by omega))
    refine ⟨x, name_whole d _ x _ hx, by rw [h1, f2], by rw [h1, f3], ?_, sd_next K d _ j x x.size hx⟩
    rw [cutTo, h1, f2]
  have keyN : ∀ w, Calls Try.prog 125 #[.int .i64 t] w fun e w' => e = .returned (.tuple #[.int .i64 (namesOf t), .int .i64 (restOf t)]) ∧ w' = w := refNames_nat t
  have Key0 : Hid (∀ w, Calls Try.prog 45 #[.int .i64 0, .int .i64 2] w fun e w' => e = .returned (.string (wd 0)) ∧ Below w.heap.size w w') := fun w => high2 0 0 w rfl (by omega)
  obtain ⟨S, hSd⟩ : ∃ S, sdata K d t (B.size + 2) = S := ⟨_, rfl⟩
  have KeyE : Hid (∀ w (v : Int), v = (S.1.size : Int) → Calls Try.prog 45 #[.int .i64 v, .int .i64 2] w fun e w' => e = .returned (.string (wd S.1.size)) ∧ Below w.heap.size w w') := fun w v hv => high2 _ _ w hv (by rw [← hSd]; omega)
  rw [hSd] at hle hS ⊢
  have H := hide h
  have HInv := hide hinv
  have HBd := hide hbd
  have HCut := hide hcut
  have KeyN := hide keyN
  have HS := hide hS
  have hz0 := wd_size 0
  have hzE := wd_size S.1.size
  clear h hfn hinv hbd hcut keyN hS hSd hd hI hO
  generalize namesOf t = m at *
  generalize restOf t = more at *
  generalize wd S.1.size = zE at *
  generalize wd 0 = z0 at *
  obtain ⟨ah, ch, hR, hNT, o1⟩ := unhide H
  obtain ⟨c0, c1, y0, y1⟩ := tx_cells hR
  have HR := hide hR
  clear hR o1
  go_enter Try.func89, Try.ntmps89
  go_wp2_with fail
  go_cut [6] (fun a w' => a = .int .i64 B.size ∧ Hid (Tx w' N T (B ++ z0) K) ∧ Hid (TFrame N w w'))
  case first =>
    go_region_with (first | (go_at_call 45; refine (unhide Key0 _).mono ?_; rintro e w1 ⟨rfl, hb1⟩; obtain ⟨d0, d1, x0, x1⟩ := tx_cells ((hb1.block T hlt).trans (unhide HR))))
    all_goals go_wp2_with fail
    all_goals go_meet
    all_goals
      have hb2 := below_undrew hb1
      obtain ⟨q1, q2⟩ := tx_set ((unhide H).below hb2) (B ++ z0)
      exact ⟨rfl, q1, (TFrame.of_below hb2).trans q2⟩
  case rest =>
    obtain ⟨rfl, hX0, hF0⟩ := hcut
    clear c0 c1 y0 y1
    go_wp2_with fail
    refine (unhide KeyN _).mono ?_
    rintro e w1 ⟨rfl, hw1⟩
    rw [hw1]
    clear hw1 w1
    go_wp2_with fail
    go_loopw [2, 7] (fun s k w' => ∃ j : Nat, j ≤ m ∧ s = .string (cutTo d j) ∧ k = .int .i64 ((m - j : Nat) : Int) ∧ Hid (Tx w' N T (B ++ z0 ++ (sdTo K d (B.size + 2) j).1) (sdTo K d (B.size + 2) j).2.1) ∧ Hid (TFrame N w w')) (fun _ k _ => (intOf k).toNat)
    case atStart =>
      refine ⟨0, Nat.zero_le _, rfl, rfl, ?_, hF0⟩
      have e : B ++ z0 ++ (⟨#[]⟩ : ByteArray) = B ++ z0 := by apply ByteArray.ext; simp [ByteArray.data_append]
      show Tx _ N T (B ++ z0 ++ (⟨#[]⟩ : ByteArray)) K
      rw [e]
      exact unhide hX0
    case round =>
      obtain ⟨j, hj, rfl, rfl, hX, hF⟩ := hrel
      have hsz := cutTo_size d j
      obtain ⟨b1, b2, b3, b4⟩ := unhide HBd j
      by_cases cj : j < m
      · obtain ⟨x, hw, hl, hx1, hx2, hnx⟩ := unhide HCut j cj
        have hinv := unhide HInv j (by omega)
        have hwp := whole_pos hw
        have hxs : x.size ≤ (cutTo d j).size := by have := (lenN_le (cutTo d j)).1; omega
        have key1 := fun w => length_any (cutTo d j) w (by omega)
        rw [hl] at key1
        have key2 := fun W (h : Tx W N T (B ++ z0 ++ (sdTo K d (B.size + 2) j).1) (sdTo K d (B.size + 2) j).2.1) => short_t N T _ _ _ x W h (by omega) (by rw [ByteArray.size_append, ByteArray.size_append]; omega) hinv hw
        have e3 : (B ++ z0 ++ (sdTo K d (B.size + 2) j).1).size = B.size + 2 + (sdTo K d (B.size + 2) j).1.size := by rw [ByteArray.size_append, ByteArray.size_append, hz0]
        rw [e3, append_assoc' (B ++ z0)] at key2
        have hnx2 : ∀ W, Tx W N T (B ++ z0 ++ ((sdTo K d (B.size + 2) j).1 ++ (short (sdTo K d (B.size + 2) j).2.1 x (B.size + 2 + (sdTo K d (B.size + 2) j).1.size)).1)) ((sdTo K d (B.size + 2) j).2.1 ++ (short (sdTo K d (B.size + 2) j).2.1 x (B.size + 2 + (sdTo K d (B.size + 2) j).1.size)).2) → Tx W N T (B ++ z0 ++ (sdTo K d (B.size + 2) (j + 1)).1) (sdTo K d (B.size + 2) (j + 1)).2.1 := by
          intro W h
          rw [hnx]
          exact h
        have K1 := hide key1
        have K2 := hide key2
        have HNx := hide hnx2
        have HX1 := hide hx1
        have HX2 := hide hx2
        have hkj : ((m - j : Nat) : Int) = (m : Int) - j := by omega
        clear key1 key2 hnx2 hnx hx1 hx2 hl hw e3 hinv b1 b2 b3 b4
        generalize cutTo d j = s at *
        go_wp2_with fail
        refine (unhide K1 _).mono ?_
        rintro e w2 ⟨rfl, hw2⟩
        rw [hw2]
        clear hw2 w2
        go_wp2_with fail
        rw [unhide HX1]
        refine (unhide K2 _ (unhide hX)).mono ?_
        rintro e w2 ⟨rfl, h2, f2⟩
        have H2 := hide (unhide HNx _ h2)
        have F2 := hide ((unhide hF).trans f2)
        clear h2 f2 hX hF
        go_wp2_with fail
        go_roundw
        case rel => exact ⟨j + 1, by omega, by rw [unhide HX2], by go_num, H2, F2⟩
        case measure => simp [intOf]; omega
      · have hjm : j = m := by omega
        subst hjm
        have hs1 := unhide HS
        have hB2 : B ++ z0 ++ S.1 = B ++ z0 ++ (sdTo K d (B.size + 2) j).1 ++ cutTo d j := by rw [hs1, ← append_assoc']
        have hK2 : S.2 = (sdTo K d (B.size + 2) j).2.1 := by rw [hs1]
        rw [← hK2] at hX
        have HB2 := hide hB2
        have hsz1 : (B ++ z0 ++ (sdTo K d (B.size + 2) j).1).size ≤ 300000 := by rw [ByteArray.size_append, ByteArray.size_append]; omega
        clear hs1 hB2 hK2 b1 b2 b3 b4 HBd HCut HInv
        generalize B ++ z0 ++ (sdTo K d (B.size + 2) j).1 = X1 at *
        generalize cutTo d j = s at *
        rw [Nat.sub_self]
        obtain ⟨ah, ch, hR, hNT, o1⟩ := unhide hX
        obtain ⟨c0, c1, y0, y1⟩ := tx_cells hR
        clear hR o1
        obtain ⟨q1, q2⟩ := tx_set (unhide hX) (X1 ++ s)
        have hq2 : (X1 ++ s) = B ++ z0 ++ S.1 := (unhide HB2).symm
        have hz3 : (X1 ++ s).size = B.size + 2 + S.1.size := by rw [hq2, ByteArray.size_append, ByteArray.size_append, hz0]
        have hf1 : (X1 ++ s).extract 0 B.size = B := by rw [hq2, append_assoc']; exact extract_front _ _
        have hf2 : (X1 ++ s).extract (B.size + 2) (X1 ++ s).size = S.1 := by
          have e : B.size + 2 = (B ++ z0).size := by rw [ByteArray.size_append, hz0]
          rw [hq2, e]
          exact extract_back _ _
        have Q1 := hide q1
        have Q2 := hide ((unhide hF).trans q2)
        have HF1 := hide hf1
        have HF2 := hide hf2
        have HQ2 := hide hq2
        clear q1 q2 hq2 hf1 hf2
        have hres : (X1 ++ s).extract 0 B.size ++ zE ++ (X1 ++ s).extract (B.size + 2) (X1 ++ s).size = B ++ zE ++ S.1 := by rw [unhide HF1, unhide HF2]
        have HRes := hide hres
        clear hres
        go_wp2_with fail
        generalize wr.setCell ⟨T, 0, none⟩ (.string (X1 ++ s)) = W2 at *
        generalize X1 ++ s = Y at *
        clear c0 c1 y0 y1 hX hF hX0 hF0
        obtain ⟨ah2, ch2, hR2, _, _⟩ := unhide Q1
        obtain ⟨c0, c1, y0, y1⟩ := tx_cells hR2
        have hlt2 := blk_lt hR2
        have HR2 := hide hR2
        have i1 : (0 : Int) ≤ (B.size : Int) := by omega
        have i2 : (B.size : Int) ≤ (Y.size : Int) := by omega
        have i3 : (B.size : Int) + 2 ≤ (Y.size : Int) := by omega
        have i4 : IntKind.i64.wrap ((B.size : Int) + 2) = (B.size : Int) + 2 := IntWalk.i64_in _ (by omega)
        have i5 : (0 : Int) ≤ (B.size : Int) + 2 := by omega
        have e1 : (Y.extract 0 B.size).size = B.size := by rw [ByteArray.size_extract]; omega
        have e2 : (Y.extract (B.size + 2) Y.size).size = S.1.size := by rw [ByteArray.size_extract]; omega
        have e3 : (Y.extract 0 B.size ++ zE).size = B.size + 2 := by rw [ByteArray.size_append]; omega
        have g1 : B.size ≤ 9223372036854775805 := by omega
        have g2 : B.size + 2 + S.1.size ≤ 9223372036854775807 := by omega
        have g3 : ((B.size : Int) + 2).toNat = B.size + 2 := by omega
        have HZ3 := hide hz3
        clear hz3
        clear hR2
        go_region_with (first | (go_at_call 45; refine (unhide KeyE _ _ ?_).mono ?_; (have hz3 := unhide HZ3; omega); rintro e w1 ⟨rfl, hb1⟩; obtain ⟨d0, d1, x0, x1⟩ := tx_cells ((hb1.block T hlt2).trans (unhide HR2))))
        all_goals go_wp2_with fail
        all_goals go_end0
        all_goals
          have hb2 := below_undrew hb1
          obtain ⟨q1, q2⟩ := tx_set ((unhide Q1).below hb2) (B ++ zE ++ S.1)
          rw [← unhide HRes] at q1 q2 ⊢
          exact ⟨rfl, q1, ((unhide Q2).trans (TFrame.of_below hb2)).trans q2⟩

end Go.Proofs.Ytdhobdmhnocbgaa
