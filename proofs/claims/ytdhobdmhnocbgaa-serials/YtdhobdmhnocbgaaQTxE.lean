/-
  Walks over the document's own answer: Serialize.
-/
import Derived.Test.YtdhobdmhnocbgaaQTxD
import Derived.Test.YtdhobdmhnocbgaaQSerZ
namespace Go.Proofs.Ytdhobdmhnocbgaa
open Go.RowKit Zr

theorem tx_new (w : World) (N : Nat) (hN : N ≤ w.heap.size) : Tx (w.alloc (.cells #[.string ⟨#[]⟩, .slice none 0 0] 78)) N w.heap.size ⟨#[]⟩ [] :=
  ⟨none, 0, heap_alloc_new _ _, hN, World.ownsRow_nil _ _ _ _⟩

theorem top_known (m : Msg) : Known (wtop m) := Inv.nil _ _

/-- The questions of a message, as Serialize writes them. -/
def QsRel (w : World) (N T M : Nat) (cs : Array Value) (st : St) : Prop := TxS w N T st ∧ w.heap[M]? = some (.cells cs 25 (0, 0))

set_option maxRecDepth 100000 in
set_option maxHeartbeats 8000000 in
theorem refSerialize_any (m : MI) (v : Value) (w : World) (hm : MsgAt w w.heap.size v m) :
    Calls Try.prog 14 #[v] w fun e w' => SerPost m e ∧ Below w.heap.size w w' := by
  obtain ⟨N, hN⟩ : ∃ N, w.heap.size = N := ⟨_, rfl⟩
  rw [hN] at hm ⊢
  have HM := hide hm
  have hsz : m.q.length ≤ m.q.length := Nat.le_refl _
  obtain ⟨a1, c1, a2, c2, a3, c3, a4, c4, rfl, r1, r2, r3, r4, _⟩ := hm
  obtain ⟨v, hv⟩ : ∃ v, Value.agg #[.int .i64 m.id, .int .i64 m.flags, .slice a1 m.q.length c1, .slice a2 m.a.length c2, .slice a3 m.u.length c3, .slice a4 m.x.length c4] = v := ⟨_, rfl⟩
  have HM' : Hid (MsgAt w N v m) := by show MsgAt _ _ _ _; rw [← hv]; exact unhide HM
  clear HM hsz
  have key1 := fun W (hb : Below N w W) (hs : N ≤ W.heap.size) => well_any m v N W ((unhide HM').below hb) hs
  rw [← hv] at key1
  have K1 := hide key1
  have HS : Hid (∀ s x, SerIs m s x ↔ ((¬ msgOk m ∧ s = ⟨#[]⟩ ∧ x = 7) ∨ (msgOk m ∧ 65535 < (writ m.nat).1.size ∧ s = ⟨#[]⟩ ∧ x = 1) ∨ (msgOk m ∧ ¬ 65535 < (writ m.nat).1.size ∧ s = (writ m.nat).1 ∧ x = 0))) := fun s x => Iff.rfl
  unfold SerPost
  generalize SerIs m = S at *
  have hR1 := fun W (hb : Below N w W) => r1.below hb
  have hR2 := fun W (hb : Below N w W) => r2.below hb
  have hR3 := fun W (hb : Below N w W) => r3.below hb
  have hR4 := fun W (hb : Below N w W) => r4.below hb
  have HR1 := hide hR1
  have HR2 := hide hR2
  have HR3 := hide hR3
  have HR4 := hide hR4
  clear key1 hv HM' r1 r2 r3 r4 hR1 hR2 hR3 hR4
  generalize hB0 : (w.alloc (.cells #[.int .i64 m.id, .int .i64 m.flags, .slice a1 m.q.length c1, .slice a2 m.a.length c2, .slice a3 m.u.length c3, .slice a4 m.x.length c4] 25)) = W0
  have hW0 : W0.heap[N]? = some (.cells #[.int .i64 m.id, .int .i64 m.flags, .slice a1 m.q.length c1, .slice a2 m.a.length c2, .slice a3 m.u.length c3, .slice a4 m.x.length c4] 25 (0, 0)) := by rw [← hB0, ← hN]; exact heap_alloc_new _ _
  have hB1 : Below N w W0 := by rw [← hB0, ← hN]; exact (Below.refl _ _).alloc (Nat.le_refl _) _
  have hs0 : W0.heap.size = N + 1 := by rw [← hB0]; simp; omega
  have HB0 := hide hB0
  clear hB0
  obtain ⟨⟨b0, b1, b2, b3, b4, b5⟩, y0, y1, y2, y3, y4, y5⟩ := cells6 hW0
  go_enter Try.func14, Try.ntmps14
  go_wp2_with fail
  rw [unhide HB0]
  clear HB0
  refine (unhide K1 _ hB1 (by omega)).mono ?_
  rintro e w1 ⟨⟨b, rfl, hb⟩, hb1⟩
  have HOk := hide hb
  have hB2 := hB1.trans (hb1.mono (by omega))
  have X1 := hide ((hb1.block N (by omega)).trans hW0)
  have hsz := hB2.size
  clear hb hW0 b0 b1 b2 b3 b4 b5 y0 y1 y2 y3 y4 y5 K1
  cases b with
  | false =>
    go_wp2_with fail
    go_ret2
    exact ⟨⟨_, _, rfl, (unhide HS _ _).2 (.inl ⟨fun h => absurd ((unhide HOk).2 h) (by simp), rfl, rfl⟩)⟩, hB2⟩
  | true =>
  have hok : msgOk m := (unhide HOk).1 (by simp)
  have HOK := hide hok
  obtain ⟨o1, o2, o3, o4, o5, o6⟩ := hok
  unfold wordOk at o1 o2
  have l1 := o3.1
  have l2 := o4.1
  have l3 := o5.1
  have l4 := o6.1
  have hltN := blk_lt (unhide X1)
  have key2 := fun w => high2 m.id m.nat.id w (by show m.id = ((m.id.toNat : Nat) : Int); omega) (by show m.id.toNat < _; omega)
  have key3 := fun w => high2 m.flags m.nat.flags w (by show m.flags = ((m.flags.toNat : Nat) : Int); omega) (by show m.flags.toNat < _; omega)
  have key4 := fun w => high2 ((m.q.length : Nat) : Int) m.q.length w rfl (by omega)
  have key5 := fun w => high2 ((m.a.length : Nat) : Int) m.a.length w rfl (by omega)
  have key6 := fun w => high2 ((m.u.length : Nat) : Int) m.u.length w rfl (by omega)
  have key7 := fun w => high2 ((m.x.length : Nat) : Int) m.x.length w rfl (by omega)
  have z1 := wd_size m.nat.id
  have z2 := wd_size m.nat.flags
  have z3 := wd_size m.q.length
  have z4 := wd_size m.a.length
  have z5 := wd_size m.u.length
  have z6 := wd_size m.x.length
  have htop : (wd m.nat.id ++ wd m.nat.flags ++ wd m.q.length ++ wd m.a.length ++ wd m.u.length ++ wd m.x.length, ([] : List (ByteArray × Nat))) = wtop m.nat := by
    unfold wtop MI.nat
    simp only [List.length_map]
  have HTop := hide htop
  have K2 := hide key2
  have K3 := hide key3
  have K4 := hide key4
  have K5 := hide key5
  have K6 := hide key6
  have K7 := hide key7
  clear key2 key3 key4 key5 key6 key7 htop
  generalize wd m.nat.id = t1 at *
  generalize wd m.nat.flags = t2 at *
  generalize wd m.q.length = t3 at *
  generalize wd m.a.length = t4 at *
  generalize wd m.u.length = t5 at *
  generalize wd m.x.length = t6 at *
  have e2 : (t1 ++ t2).size = 4 := by rw [ByteArray.size_append]; omega
  have e3 : (t1 ++ t2 ++ t3).size = 6 := by rw [ByteArray.size_append]; omega
  have e4 : (t1 ++ t2 ++ t3 ++ t4).size = 8 := by rw [ByteArray.size_append]; omega
  have e5 : (t1 ++ t2 ++ t3 ++ t4 ++ t5).size = 10 := by rw [ByteArray.size_append]; omega
  obtain ⟨T, hT⟩ : ∃ T, w1.heap.size = T := ⟨_, rfl⟩
  have hTx := tx_new w1 N (by omega)
  rw [hT] at hTx
  have hal := (Below.refl w1.heap.size w1).alloc (Nat.le_refl _) (.cells #[.string ⟨#[]⟩, .slice none 0 0] 78)
  have HTx := hide hTx
  have HB3 := hide (hB2.trans (hal.mono (show N ≤ w1.heap.size by omega)))
  have HX3 := hide ((hal.block N hltN).trans (unhide X1))
  have hsT : (w1.alloc (.cells #[.string ⟨#[]⟩, .slice none 0 0] 78)).heap.size = T + 1 := by simp; omega
  have hTN : T ≠ N := by omega
  have hNT : N ≠ T := by omega
  clear hTx hal
  go_wp2_with fail
  generalize w1.alloc (.cells #[.string ⟨#[]⟩, .slice none 0 0] 78) = w2 at *
  obtain ⟨⟨b0, b1, b2, b3, b4, b5⟩, y0, y1, y2, y3, y4, y5⟩ := cells6 (unhide HX3)
  obtain ⟨ah, ch, hRT, _, _⟩ := unhide HTx
  obtain ⟨d0, d1, v0, v1⟩ := tx_cells hRT
  have HRT := hide hRT
  clear hRT
  go_cut [5] (fun p w' => p = .pointer (some ⟨T, 0, none⟩) ∧ Hid (Tx w' N T (t1 ++ t2 ++ t3 ++ t4 ++ t5 ++ t6) []) ∧ Hid (Below N w w') ∧ Hid (w'.heap[N]? = some (.cells #[.int .i64 m.id, .int .i64 m.flags, .slice a1 m.q.length c1, .slice a2 m.a.length c2, .slice a3 m.u.length c3, .slice a4 m.x.length c4] 25 (0, 0))))
  case first =>
    go_region_held3 (fun u => u.cell? ⟨N, 0, none⟩ = some (.int .i64 m.id) ∧ u.cell? ⟨N, 1, none⟩ = some (.int .i64 m.flags) ∧ u.cell? ⟨N, 2, none⟩ = some (.slice a1 m.q.length c1) ∧ u.cell? ⟨N, 3, none⟩ = some (.slice a2 m.a.length c2) ∧ u.cell? ⟨N, 4, none⟩ = some (.slice a3 m.u.length c3) ∧ u.cell? ⟨N, 5, none⟩ = some (.slice a4 m.x.length c4)) (go_keep)
      (first
      | (go_at_call_of 45 (Value.int IntKind.i64 m.id); refine (unhide K2 _).mono ?_; rintro e u4 ⟨rfl, hb4⟩; have HX4 := hide ((hb4.block N (blk_lt (unhide HX3))).trans (unhide HX3)); obtain ⟨⟨n0, n1, n2, n3, n4, n5⟩, _⟩ := cells6 (unhide HX4); have HT4 := hide ((hb4.block T (blk_lt (unhide HRT))).trans (unhide HRT)); obtain ⟨x0, x1, x2, x3⟩ := tx_cells (unhide HT4))
      | (go_at_call_of 45 (Value.int IntKind.i64 m.flags); refine (unhide K3 _).mono ?_; rintro e u5 ⟨rfl, hb5⟩; have HX5 := hide ((hb5.block N (blk_lt (unhide HX4))).trans (unhide HX4)); obtain ⟨⟨n0, n1, n2, n3, n4, n5⟩, _⟩ := cells6 (unhide HX5); have HT5 := hide ((hb5.block T (blk_lt (unhide HT4))).trans (unhide HT4)); obtain ⟨x0, x1, x2, x3⟩ := tx_cells (unhide HT5))
      | (go_at_call_of 45 (Value.int IntKind.i64 (m.q.length : Int)); refine (unhide K4 _).mono ?_; rintro e u6 ⟨rfl, hb6⟩; have HX6 := hide ((hb6.block N (blk_lt (unhide HX5))).trans (unhide HX5)); obtain ⟨⟨n0, n1, n2, n3, n4, n5⟩, _⟩ := cells6 (unhide HX6); have HT6 := hide ((hb6.block T (blk_lt (unhide HT5))).trans (unhide HT5)); obtain ⟨x0, x1, x2, x3⟩ := tx_cells (unhide HT6))
      | (go_at_call_of 45 (Value.int IntKind.i64 (m.a.length : Int)); refine (unhide K5 _).mono ?_; rintro e u7 ⟨rfl, hb7⟩; have HX7 := hide ((hb7.block N (blk_lt (unhide HX6))).trans (unhide HX6)); obtain ⟨⟨n0, n1, n2, n3, n4, n5⟩, _⟩ := cells6 (unhide HX7); have HT7 := hide ((hb7.block T (blk_lt (unhide HT6))).trans (unhide HT6)); obtain ⟨x0, x1, x2, x3⟩ := tx_cells (unhide HT7))
      | (go_at_call_of 45 (Value.int IntKind.i64 (m.u.length : Int)); refine (unhide K6 _).mono ?_; rintro e u8 ⟨rfl, hb8⟩; have HX8 := hide ((hb8.block N (blk_lt (unhide HX7))).trans (unhide HX7)); obtain ⟨⟨n0, n1, n2, n3, n4, n5⟩, _⟩ := cells6 (unhide HX8); have HT8 := hide ((hb8.block T (blk_lt (unhide HT7))).trans (unhide HT7)); obtain ⟨x0, x1, x2, x3⟩ := tx_cells (unhide HT8))
      | (go_at_call_of 45 (Value.int IntKind.i64 (m.x.length : Int)); refine (unhide K7 _).mono ?_; rintro e u9 ⟨rfl, hb9⟩; have HX9 := hide ((hb9.block N (blk_lt (unhide HX8))).trans (unhide HX8)); obtain ⟨⟨n0, n1, n2, n3, n4, n5⟩, _⟩ := cells6 (unhide HX9); have HT9 := hide ((hb9.block T (blk_lt (unhide HT8))).trans (unhide HT8)); obtain ⟨x0, x1, x2, x3⟩ := tx_cells (unhide HT9)))
    all_goals go_wp2_with fail
    all_goals go_meet
    all_goals
      have hb10 := (((((below_undrew hb4).trans (hb5.mono hb4.size)).trans (hb6.mono (Nat.le_trans hb4.size hb5.size))).trans (hb7.mono (Nat.le_trans hb4.size (Nat.le_trans hb5.size hb6.size)))).trans (hb8.mono (Nat.le_trans hb4.size (Nat.le_trans hb5.size (Nat.le_trans hb6.size hb7.size))))).trans (hb9.mono (Nat.le_trans hb4.size (Nat.le_trans hb5.size (Nat.le_trans hb6.size (Nat.le_trans hb7.size hb8.size)))))
      obtain ⟨p1, p2⟩ := tx_set ((unhide HTx).below hb10) (t1 ++ t2 ++ t3 ++ t4 ++ t5 ++ t6)
      exact ⟨rfl, p1, ((unhide HB3).trans (hb10.mono (show N ≤ w2.heap.size by omega))).trans (p2.below (Nat.le_trans (show N ≤ w2.heap.size by omega) hb10.size)), (blk_set_other hNT _ _).trans (unhide HX9)⟩
  case rest =>
    obtain ⟨rfl, HT0, HB4, HX4⟩ := hcut
    clear b0 b1 b2 b3 b4 b5 y0 y1 y2 y3 y4 y5 d0 d1 v0 v1 HTx HB3 HX3 HRT
    have HT0 : Hid (TxS wc N T (wtop m.nat)) := by show TxS _ _ _ _; rw [← unhide HTop]; exact unhide HT0
    have hN4 : N ≤ wc.heap.size := Nat.le_of_lt (blk_lt (unhide HX4))
    have f0 := top_fine m.nat
    have k0 := top_known m.nat
    have fq := foldQ_fine f0.1 (by omega) m.q (ques_mem o3)
    have kq := foldQ_known k0 m.q (ques_mem o3)
    obtain ⟨s1, hs1⟩ : ∃ s, (m.q.map QI.nat).foldl stepQ (wtop m.nat) = s := ⟨_, rfl⟩
    rw [hs1] at fq kq
    have fa := foldR_fine fq.1 fq.2 m.a (part_mem o4)
    have ka := foldR_known kq m.a (part_mem o4)
    obtain ⟨s2, hs2⟩ : ∃ s, (m.a.map RI.nat).foldl stepR s1 = s := ⟨_, rfl⟩
    rw [hs2] at fa ka
    have fu := foldR_fine fa.1 fa.2 m.u (part_mem o5)
    have ku := foldR_known ka m.u (part_mem o5)
    obtain ⟨s3, hs3⟩ : ∃ s, (m.u.map RI.nat).foldl stepR s2 = s := ⟨_, rfl⟩
    rw [hs3] at fu ku
    have fx := foldR_fine fu.1 fu.2 m.x (part_mem o6)
    obtain ⟨s4, hs4⟩ : ∃ s, (m.x.map RI.nat).foldl stepR s3 = s := ⟨_, rfl⟩
    rw [hs4] at fx
    have hres : writ m.nat = s4 := by
      unfold writ
      rw [← hs4, ← hs3, ← hs2, ← hs1]
      rfl
    have key8 := fun W (h : TxS W N T s1) (hb : Below N w W) (hs : N ≤ W.heap.size) => part_t N T s1 m.a 0 a2 c2 W h fq.1 kq fq.2 o4 (unhide HR2 W hb) hs
    rw [hs2] at key8
    have key9 := fun W (h : TxS W N T s2) (hb : Below N w W) (hs : N ≤ W.heap.size) => part_t N T s2 m.u 1 a3 c3 W h fa.1 ka fa.2 o5 (unhide HR3 W hb) hs
    rw [hs3] at key9
    have key10 := fun W (h : TxS W N T s3) (hb : Below N w W) (hs : N ≤ W.heap.size) => part_t N T s3 m.x 2 a4 c4 W h fu.1 ku fu.2 o6 (unhide HR4 W hb) hs
    rw [hs4] at key10
    have K8 := hide key8
    have K9 := hide key9
    have K10 := hide key10
    have hz4 := fx.2
    have HAt := hide (fun (i : Nat) (hi : i < m.q.length) => fold_at stepQ QI.nat m.q (wtop m.nat) i hi)
    have HRest := hide (fold_rest stepQ QI.nat m.q (wtop m.nat))
    have HFine := hide (fun i => foldQ_fine f0.1 (by omega) (m.q.take i) (fun x hx => ques_mem o3 x (List.mem_of_mem_take hx)))
    have HKn := hide (fun i => foldQ_known k0 (m.q.take i) (fun x hx => ques_mem o3 x (List.mem_of_mem_take hx)))
    have HQ := hide o3
    have HS1 := hide hs1
    rw [hres] at HS
    clear key8 key9 key10 fq kq fa ka fu ku fx f0 k0 hs1 hs2 hs3 hs4 hres o3 o4 o5 o6 HR2 HR3 HR4 K2 K3 K4 K5 K6 K7
    obtain ⟨⟨b0, b1, b2, b3, b4, b5⟩, y0, y1, y2, y3, y4, y5⟩ := cells6 (unhide HX4)
    go_wp2_with fail
    have hsN : ∀ {W : World}, Below N w W → N ≤ W.heap.size := fun h => by have := h.size; omega
    go_loopw [6] (fun i w' => ∃ j : Nat, i = .int .i64 j ∧ j ≤ m.q.length ∧ Hid (TxS w' N T (((m.q.take j).map QI.nat).foldl stepQ (wtop m.nat))) ∧ Hid (TFrame N wc w')) (fun i _ => m.q.length - (intOf i).toNat)
    case atStart => exact ⟨0, rfl, Nat.zero_le _, HT0, TFrame.refl _ _⟩
    case round =>
      obtain ⟨j, rfl, hj, hW, hG⟩ := hrel
      have hfin := unhide HFine j
      have hkn := unhide HKn j
      have HXw := hide ((unhide hG).box (unhide HX4) (by decide) (by decide))
      clear b0 b1 b2 b3 b4 b5 y0 y1 y2 y3 y4 y5
      obtain ⟨⟨b0, b1, b2, b3, b4, b5⟩, y0, y1, y2, y3, y4, y5⟩ := cells6 (unhide HXw)
      have hBw := (unhide HB4).trans ((unhide hG).below hN4)
      have HBw := hide hBw
      clear hBw
      by_cases cj : j < m.q.length
      · by_cases cf : 65535 < (((m.q.take j).map QI.nat).foldl stepQ (wtop m.nat)).1.size
        · have hend : ((m.q.take j).map QI.nat).foldl stepQ (wtop m.nat) = s1 := by
            rw [← unhide HS1, unhide HRest j]
            exact (foldl_full stepQ stepQ_full _ cf _).symm
          rw [hend] at hW cf
          clear hend hfin hkn
          obtain ⟨ah, ch, hR, hNT, o1⟩ := unhide hW
          obtain ⟨d0, d1, v0, v1⟩ := tx_cells hR
          clear hR o1
          go_wp2_with fail
          clear d0 d1 v0 v1
          have HTw : Hid (TxS wr N T s1) := hW
          refine (unhide K8 _ (unhide HTw) (unhide HBw) (hsN (unhide HBw))).mono ?_
          rintro e w6 ⟨rfl, h6, g6⟩
          have HX6 := hide (g6.box (unhide HXw) (by decide) (by decide))
          have HB6 := hide ((unhide HBw).trans (g6.below (hsN (unhide HBw))))
          have H6 := hide h6
          clear h6 g6 b0 b1 b2 b3 b4 b5 y0 y1 y2 y3 y4 y5
          obtain ⟨⟨b0, b1, b2, b3, b4, b5⟩, y0, y1, y2, y3, y4, y5⟩ := cells6 (unhide HX6)
          go_wp2_with fail
          refine (unhide K9 _ (unhide H6) (unhide HB6) (hsN (unhide HB6))).mono ?_
          rintro e w7 ⟨rfl, h7, g7⟩
          have HX7 := hide (g7.box (unhide HX6) (by decide) (by decide))
          have HB7 := hide ((unhide HB6).trans (g7.below (hsN (unhide HB6))))
          have H7 := hide h7
          clear h7 g7 b0 b1 b2 b3 b4 b5 y0 y1 y2 y3 y4 y5
          obtain ⟨⟨b0, b1, b2, b3, b4, b5⟩, y0, y1, y2, y3, y4, y5⟩ := cells6 (unhide HX7)
          go_wp2_with fail
          refine (unhide K10 _ (unhide H7) (unhide HB7) (hsN (unhide HB7))).mono ?_
          rintro e w8 ⟨rfl, h8, g8⟩
          have HB8 := hide ((unhide HB7).trans (g8.below (hsN (unhide HB7))))
          have H8 := hide h8
          clear h8 g8 b0 b1 b2 b3 b4 b5 y0 y1 y2 y3 y4 y5
          obtain ⟨B4, K4⟩ := s4
          obtain ⟨ah4, ch4, hR4, _, _⟩ := unhide H8
          obtain ⟨d0, d1, v0, v1⟩ := tx_cells hR4
          clear hR4
          simp only at *
          by_cases cz : 65535 < B4.size
          · go_wp2_with fail
            go_ret2
            exact ⟨⟨_, _, rfl, (unhide HS _ _).2 (.inr (.inl ⟨unhide HOK, cz, rfl, rfl⟩))⟩, unhide HB8⟩
          · go_wp2_with fail
            go_ret2
            exact ⟨⟨_, _, rfl, (unhide HS _ _).2 (.inr (.inr ⟨unhide HOK, cz, rfl, rfl⟩))⟩, unhide HB8⟩
        · have hnx := unhide HAt j cj
          have hq := (unhide HQ).2 j cj
          obtain ⟨b, o, rfl, hb, x0, x1, x2⟩ := row_q (unhide HR1 _ (unhide HBw)) j cj
          generalize ((m.q.take j).map QI.nat).foldl stepQ (wtop m.nat) = s at *
          have hst : stepQ s m.q[j].nat = wque s m.q[j].nat := by unfold stepQ; rw [if_neg cf]
          rw [hst] at hnx
          obtain ⟨n1, n2, n3, n4⟩ := queOk_nat hq
          obtain ⟨_, y2', y3'⟩ := id hq
          unfold wordOk at y2' y3'
          obtain ⟨sa, hsa⟩ : ∃ s', wname s m.q[j].nat.name = s' := ⟨_, rfl⟩
          have f1 := wname_fine hfin.1 m.q[j].nat.name
          rw [hsa] at f1
          have hs5 : wque s m.q[j].nat = (sa.1 ++ wd m.q[j].nat.ty ++ wd m.q[j].nat.cl, sa.2) := by rw [← hsa]; rfl
          rw [hs5] at hnx
          have key1 := fun W (h : TxS W N T s) => shortS_t N T s m.q[j].nat.name W h hfin.1 hkn (by omega) n4
          rw [hsa] at key1
          have key2 := fun w => high2 m.q[j].ty m.q[j].nat.ty w (by show m.q[j].ty = ((m.q[j].ty.toNat : Nat) : Int); omega) (by omega)
          have key3 := fun w => high2 m.q[j].cl m.q[j].nat.cl w (by show m.q[j].cl = ((m.q[j].cl.toNat : Nat) : Int); omega) (by omega)
          have zz1 := wd_size m.q[j].nat.ty
          have zz2 := wd_size m.q[j].nat.cl
          have hBa : sa.1.size ≤ 70000 := by omega
          have e7 : m.q[j].nat.name = m.q[j].name := rfl
          rw [e7] at key1
          have K1 := hide key1
          have K2 := hide key2
          have K3 := hide key3
          have HNx := hide hnx
          clear key1 key2 key3 hnx hst hsa hs5 f1 hfin hkn n1 n2 n3 n4 y2' y3' hq e7
          generalize wd m.q[j].nat.ty = q1 at *
          generalize wd m.q[j].nat.cl = q2 at *
          generalize m.q[j].name = nm at *
          generalize m.q[j].ty = ty at *
          generalize m.q[j].cl = kl at *
          obtain ⟨B, K⟩ := s
          obtain ⟨ah, ch, hR, hNT, o1⟩ := unhide hW
          obtain ⟨d0, d1, v0, v1⟩ := tx_cells hR
          clear hR o1
          simp only at *
          have hal := (Below.refl wr.heap.size wr).alloc (Nat.le_refl _) (.cells #[.string nm, .int .i64 ty, .int .i64 kl] 74)
          have HT0' := hide ((unhide hW).below hal)
          have HX0 := hide (heap_alloc_new wr (.cells #[.string nm, .int .i64 ty, .int .i64 kl] 74))
          have HG0 := hide ((unhide hG).trans (TFrame.of_below hal))
          obtain ⟨X, hX⟩ : ∃ X, wr.heap.size = X := ⟨_, rfl⟩
          clear hal
          go_wp2_with fail
          refine (unhide K1 _ (unhide HT0')).mono ?_
          rintro e w1 ⟨rfl, h1, g1⟩
          have HX1 := hide (g1.box (unhide HX0) (by decide) (by decide))
          rw [hX] at HX1
          have G1 := hide ((unhide HG0).trans g1)
          have H1 := hide h1
          clear h1 g1 HX0 HT0' HG0 hW hG d0 d1 v0 v1 x0 x1 x2 hX b0 b1 b2 b3 b4 b5 y0 y1 y2 y3 y4 y5 HXw HBw
          obtain ⟨⟨b0, b1, b2⟩, r0, r1, r2⟩ := cells3 (unhide HX1)
          obtain ⟨B1, KK1⟩ := sa
          obtain ⟨ah1, ch1, hRx, hNT1, o11⟩ := unhide H1
          obtain ⟨c0, d1, v0, v1⟩ := tx_cells hRx
          have HR1' := hide hRx
          have hlt1 := blk_lt hRx
          have hltX := blk_lt (unhide HX1)
          clear hRx o11
          simp only at *
          have q12 : (B1 ++ q1).size = B1.size + 2 := by rw [ByteArray.size_append]; omega
          have g1 : ¬ (9223372036854775807 < B1.size + 2) := by omega
          have g2 : ¬ (9223372036854775807 < B1.size + 2 + 2) := by omega
          have g3 : ¬ (9223372036854775807 < B1.size + 4) := by omega
          go_wp2_with fail
          refine wp_region_noPanic ?_
          refine wp_region_anyB (fun u => u.cell? ⟨T, 0, none⟩ = some (.string B1) ∧ u.cell? ⟨X, 1, none⟩ = some (.int .i64 ty) ∧ u.cell? ⟨X, 2, none⟩ = some (.int .i64 kl)) 15 (by kernel_rfl) ?_
          have hS1 : w1.drew.cell? ⟨T, 0, none⟩ = some (.string B1) ∧ w1.drew.cell? ⟨X, 1, none⟩ = some (.int .i64 ty) ∧ w1.drew.cell? ⟨X, 2, none⟩ = some (.int .i64 kl) := ⟨c0, b1, b2⟩
          refine anyB_take (i := 0) (v := ?_) rfl rfl (by kernel_rfl) (by kernel_rfl) (by kernel_rfl) (by kernel_rfl) (fun _ _ _ h => h) (Or.inl ⟨by rfl, ?_⟩) hS1 ?_
          rotate_left
          · intro u hu
            obtain ⟨u0, u1, u2⟩ := hu
            go_simp
            try with_reducible rfl
          try simp only [Act.put]
          refine anyB_take (i := 1) (v := ?_) rfl rfl (by kernel_rfl) (by kernel_rfl) (by kernel_rfl) (by kernel_rfl) (fun _ _ _ h => h) (Or.inl ⟨by rfl, ?_⟩) hS1 ?_
          rotate_left
          · intro u hu
            obtain ⟨u0, u1, u2⟩ := hu
            go_simp
            try with_reducible rfl
          try simp only [Act.put]
          refine anyB_take (i := 2) (v := ?_) rfl rfl (by kernel_rfl) (by kernel_rfl) (by kernel_rfl) (by kernel_rfl) (fun _ _ _ h => h) (Or.inl ⟨by rfl, ?_⟩) hS1 ?_
          rotate_left
          · intro u hu
            obtain ⟨u0, u1, u2⟩ := hu
            go_simp
            try with_reducible rfl
          try simp only [Act.put]
          refine anyB_take (i := 3) (v := ?_) rfl rfl (by kernel_rfl) (by kernel_rfl) (by kernel_rfl) (by kernel_rfl) (fun _ _ _ h => h) (Or.inl ⟨by rfl, ?_⟩) hS1 ?_
          rotate_left
          · intro u hu
            obtain ⟨u0, u1, u2⟩ := hu
            go_simp
            try with_reducible rfl
          try simp only [Act.put]
          refine anyB_take (i := 4) (v := ?_) rfl rfl (by kernel_rfl) (by kernel_rfl) (by kernel_rfl) (by kernel_rfl) (fun _ _ _ h => h) (Or.inl ⟨by rfl, ?_⟩) hS1 ?_
          rotate_left
          · intro u hu
            obtain ⟨u0, u1, u2⟩ := hu
            go_simp
            try with_reducible rfl
          try simp only [Act.put]
          refine anyB_take (i := 5) (v := ?_) rfl rfl (by kernel_rfl) (by kernel_rfl) (by kernel_rfl) (by kernel_rfl) (fun _ _ _ h => h) (Or.inl ⟨by rfl, ?_⟩) hS1 ?_
          rotate_left
          · intro u hu
            obtain ⟨u0, u1, u2⟩ := hu
            go_simp
            try with_reducible rfl
          try simp only [Act.put]
          refine anyB_take (i := 6) (v := ?_) rfl rfl (by kernel_rfl) (by kernel_rfl) (by kernel_rfl) (by kernel_rfl) (fun _ _ _ h => h) (Or.inl ⟨by rfl, ?_⟩) hS1 ?_
          rotate_left
          · intro u hu
            obtain ⟨u0, u1, u2⟩ := hu
            go_simp
            try with_reducible rfl
          try simp only [Act.put]
          refine anyB_take (i := 9) (v := ?_) rfl rfl (by kernel_rfl) (by kernel_rfl) (by kernel_rfl) (by kernel_rfl) (fun _ _ _ h => h) (Or.inl ⟨by rfl, ?_⟩) hS1 ?_
          rotate_left
          · intro u hu
            obtain ⟨u0, u1, u2⟩ := hu
            go_simp
            try with_reducible rfl
          try simp only [Act.put]
          refine anyB_take (i := 10) (v := ?_) rfl rfl (by kernel_rfl) (by kernel_rfl) (by kernel_rfl) (by kernel_rfl) (fun _ _ _ h => h) (Or.inl ⟨by rfl, ?_⟩) hS1 ?_
          rotate_left
          · intro u hu
            obtain ⟨u0, u1, u2⟩ := hu
            go_simp
            try with_reducible rfl
          try simp only [Act.put]
          refine anyB_one (i := 7) rfl (by kernel_rfl) (fun K hK => ?_)
          go_simp
          refine (unhide K2 _).mono ?_
          rintro e w2 ⟨rfl, hb2⟩
          have hS2 := (⟨(hb2.cell (p := ⟨T, 0, none⟩) (blk_lt (unhide HR1'))).trans hS1.1, (hb2.cell (p := ⟨X, 1, none⟩) (blk_lt (unhide HX1))).trans hS1.2.1, (hb2.cell (p := ⟨X, 2, none⟩) (blk_lt (unhide HX1))).trans hS1.2.2⟩ : w2.cell? ⟨T, 0, none⟩ = some (.string B1) ∧ w2.cell? ⟨X, 1, none⟩ = some (.int .i64 ty) ∧ w2.cell? ⟨X, 2, none⟩ = some (.int .i64 kl))
          refine hK _ _ (fun _ => hS2) ?_
          clear hK K
          try simp only [Act.put]
          have HX2 := hide ((hb2.block X (blk_lt (unhide HX1))).trans (unhide HX1))
          have HR2 := hide ((hb2.block T (blk_lt (unhide HR1'))).trans (unhide HR1'))
          refine anyB_take (i := 8) (v := ?_) rfl rfl (by kernel_rfl) (by kernel_rfl) (by kernel_rfl) (by kernel_rfl) (fun _ _ _ h => h) (Or.inl ⟨by rfl, ?_⟩) hS2 ?_
          rotate_left
          · intro u hu
            obtain ⟨u0, u1, u2⟩ := hu
            go_simp
            try with_reducible rfl
          try simp only [Act.put]
          refine anyB_one (i := 11) rfl (by kernel_rfl) (fun K hK => ?_)
          go_simp
          refine (unhide K3 _).mono ?_
          rintro e w3 ⟨rfl, hb3⟩
          have hS3 := (⟨(hb3.cell (p := ⟨T, 0, none⟩) (blk_lt (unhide HR2))).trans hS2.1, (hb3.cell (p := ⟨X, 1, none⟩) (blk_lt (unhide HX2))).trans hS2.2.1, (hb3.cell (p := ⟨X, 2, none⟩) (blk_lt (unhide HX2))).trans hS2.2.2⟩ : w3.cell? ⟨T, 0, none⟩ = some (.string B1) ∧ w3.cell? ⟨X, 1, none⟩ = some (.int .i64 ty) ∧ w3.cell? ⟨X, 2, none⟩ = some (.int .i64 kl))
          refine hK _ _ (fun _ => hS3) ?_
          clear hK K
          try simp only [Act.put]
          have HX3 := hide ((hb3.block X (blk_lt (unhide HX2))).trans (unhide HX2))
          have HR3 := hide ((hb3.block T (blk_lt (unhide HR2))).trans (unhide HR2))
          refine anyB_take (i := 12) (v := ?_) rfl rfl (by kernel_rfl) (by kernel_rfl) (by kernel_rfl) (by kernel_rfl) (fun _ _ _ h => h) (Or.inl ⟨by rfl, ?_⟩) hS3 ?_
          rotate_left
          · intro u hu
            obtain ⟨u0, u1, u2⟩ := hu
            go_simp
            try with_reducible rfl
          try simp only [Act.put]
          refine anyB_one (i := 13) rfl (by kernel_rfl) (fun K hK => ?_)
          go_simp
          refine hK _ _ (fun _ => hS3) ?_
          clear hK K
          try simp only [Act.put]
          refine anyB_one (i := 14) rfl (by kernel_rfl) (fun K hK => ?_)
          go_simp
          refine hK _ _ (fun _ => hS3) ?_
          clear hK K
          try simp only [Act.put]
          obtain ⟨d0, d1, u0, u1⟩ := tx_cells (unhide HR3)
          refine anyB_one (i := 15) rfl (by kernel_rfl) (fun K hK => ?_)
          go_simp
          refine hK _ _ (fun h => absurd rfl h) (anyB_done (by kernel_rfl) ?_ _)
          clear hK K
          refine NoPanic.normal ?_
          have hb5 := (below_undrew hb2).trans (hb3.mono hb2.size)
          obtain ⟨p1, p2⟩ := tx_set ((unhide H1).below hb5) (B1 ++ q1 ++ q2)
          have P1 := hide p1
          have P2 := hide (((unhide G1).trans (TFrame.of_below hb5)).trans p2)
          clear p1 p2 hS1 hS2 hS3 c0 d0 d1 u0 u1 v0 v1 b0 b1 b2 r0 r1 r2
          go_wp2_with fail
          go_roundw
          case rel => exact ⟨j + 1, by go_num, by omega, by rw [unhide HNx]; exact P1, P2⟩
          case measure => simp [intOf]; omega
      · have hjn : m.q.take j = m.q := List.take_of_length_le (by omega)
        rw [hjn, unhide HS1] at hW
        clear hfin hjn hkn
        go_wp2_with fail
        have HTw : Hid (TxS wr N T s1) := hW
        refine (unhide K8 _ (unhide HTw) (unhide HBw) (hsN (unhide HBw))).mono ?_
        rintro e w6 ⟨rfl, h6, g6⟩
        have HX6 := hide (g6.box (unhide HXw) (by decide) (by decide))
        have HB6 := hide ((unhide HBw).trans (g6.below (hsN (unhide HBw))))
        have H6 := hide h6
        clear h6 g6 b0 b1 b2 b3 b4 b5 y0 y1 y2 y3 y4 y5
        obtain ⟨⟨b0, b1, b2, b3, b4, b5⟩, y0, y1, y2, y3, y4, y5⟩ := cells6 (unhide HX6)
        go_wp2_with fail
        refine (unhide K9 _ (unhide H6) (unhide HB6) (hsN (unhide HB6))).mono ?_
        rintro e w7 ⟨rfl, h7, g7⟩
        have HX7 := hide (g7.box (unhide HX6) (by decide) (by decide))
        have HB7 := hide ((unhide HB6).trans (g7.below (hsN (unhide HB6))))
        have H7 := hide h7
        clear h7 g7 b0 b1 b2 b3 b4 b5 y0 y1 y2 y3 y4 y5
        obtain ⟨⟨b0, b1, b2, b3, b4, b5⟩, y0, y1, y2, y3, y4, y5⟩ := cells6 (unhide HX7)
        go_wp2_with fail
        refine (unhide K10 _ (unhide H7) (unhide HB7) (hsN (unhide HB7))).mono ?_
        rintro e w8 ⟨rfl, h8, g8⟩
        have HB8 := hide ((unhide HB7).trans (g8.below (hsN (unhide HB7))))
        have H8 := hide h8
        clear h8 g8 b0 b1 b2 b3 b4 b5 y0 y1 y2 y3 y4 y5
        obtain ⟨B4, K4⟩ := s4
        obtain ⟨ah4, ch4, hR4, _, _⟩ := unhide H8
        obtain ⟨d0, d1, v0, v1⟩ := tx_cells hR4
        clear hR4
        simp only at *
        by_cases cz : 65535 < B4.size
        · go_wp2_with fail
          go_ret2
          exact ⟨⟨_, _, rfl, (unhide HS _ _).2 (.inr (.inl ⟨unhide HOK, cz, rfl, rfl⟩))⟩, unhide HB8⟩
        · go_wp2_with fail
          go_ret2
          exact ⟨⟨_, _, rfl, (unhide HS _ _).2 (.inr (.inr ⟨unhide HOK, cz, rfl, rfl⟩))⟩, unhide HB8⟩

end Go.Proofs.Ytdhobdmhnocbgaa
