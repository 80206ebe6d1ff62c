/-
  Walks over the document's own answer: records are written.
-/
import Derived.Test.YtdhobdmhnocbgaaQTxC
import Derived.Test.YtdhobdmhnocbgaaQAnyB
import Derived.Test.YtdhobdmhnocbgaaQSerX
namespace Go.Proofs.Ytdhobdmhnocbgaa
open Go.RowKit Zr

def TxS (w : World) (N T : Nat) (st : St) : Prop := Tx w N T st.1 st.2

theorem shortS_t (N T : Nat) (st : St) (s : ByteArray) (w : World) (h : TxS w N T st) (hF : Fine st) (hI : Known st) (hB : st.1.size ≤ 200000) (hs : wholeB s = true) :
    Calls Try.prog 46 #[.pointer (some ⟨T, 0, none⟩), .string s] w fun e w' => e = .returned (.tuple #[]) ∧ TxS w' N T (wname st s) ∧ TFrame N w w' := by
  have h1 := hF.1
  exact short_t N T st.1 st.2 _ s w h (by omega) (by omega) hI hs

set_option maxRecDepth 100000 in
set_option maxHeartbeats 4000000 in
theorem part_t (N T : Nat) (st : St) (l : List RI) (part : Nat) (a : Option Addr) (c : Nat) (w : World) (h : TxS w N T st) (hF : Fine st) (hI : Known st) (hB : st.1.size ≤ 140000) (hl : partOk l part) (hrow : RowAt w N a (rcI l)) (hN : N ≤ w.heap.size) :
    Calls Try.prog 47 #[.pointer (some ⟨T, 0, none⟩), .slice a l.length c] w fun e w' => e = .returned (.tuple #[]) ∧ TxS w' N T ((l.map RI.nat).foldl stepR st) ∧ TFrame N w w' := by
  have HRow := hide hrow
  have HL := hide hl
  have hlen := hl.1
  have H := hide h
  have HAt := hide (fun (i : Nat) (hi : i < l.length) => fold_at stepR RI.nat l st i hi)
  have HRest := hide (fold_rest stepR RI.nat l st)
  have HFine := hide (fun i => foldR_fine hF hB (l.take i) (fun x hx => part_mem hl x (List.mem_of_mem_take hx)))
  have HKn := hide (fun i => foldR_known hI (l.take i) (fun x hx => part_mem hl x (List.mem_of_mem_take hx)))
  clear hF hrow hl h hI
  obtain ⟨res, hres⟩ : ∃ r, (l.map RI.nat).foldl stepR st = r := ⟨_, rfl⟩
  rw [hres]
  have HRes := hide hres
  clear hres
  go_enter Try.func47, Try.ntmps47
  go_wp2_with fail
  go_loopw [4] (fun i w' => ∃ j : Nat, i = .int .i64 j ∧ j ≤ l.length ∧ Hid (TxS w' N T (((l.take j).map RI.nat).foldl stepR st)) ∧ Hid (TFrame N w w')) (fun i _ => l.length - (intOf i).toNat)
  case atStart => exact ⟨0, rfl, Nat.zero_le _, H, TFrame.refl _ _⟩
  case round =>
    obtain ⟨j, rfl, hj, hW, hG⟩ := hrel
    have hfin := unhide HFine j
    have hkn := unhide HKn j
    by_cases cj : j < l.length
    · by_cases cf : 65535 < (((l.take j).map RI.nat).foldl stepR st).1.size
      · have hend : ((l.take j).map RI.nat).foldl stepR st = res := by
          rw [← unhide HRes, unhide HRest j]
          exact (foldl_full stepR stepR_full _ cf _).symm
        have HEnd := hide hend
        have hz := hfin.2
        clear hend hfin hkn
        generalize ((l.take j).map RI.nat).foldl stepR st = s at *
        obtain ⟨B, K⟩ := s
        obtain ⟨ah, ch, hR, hNT, o1⟩ := unhide hW
        obtain ⟨c0, c1, z0, z1⟩ := tx_cells hR
        clear hR o1
        simp only at *
        go_wp2_with fail
        go_end0
        exact ⟨rfl, by rw [← unhide HEnd]; exact unhide hW, unhide hG⟩
      · have hnx := unhide HAt j cj
        have hq := ((unhide HL).2 j cj).1
        obtain ⟨b, o, rfl, hb, x0, x1, x2, x3, x4⟩ := row_r ((unhide HRow).below ((unhide hG).below hN)) j cj
        generalize ((l.take j).map RI.nat).foldl stepR st = s at *
        have hst : stepR s l[j].nat = wrec s l[j].nat := by unfold stepR; rw [if_neg cf]
        rw [hst] at hnx
        obtain ⟨n1, n2, n3, n4, n5, n6, n7⟩ := recOk_nat hq
        obtain ⟨y1, y2, y3, y4, y5⟩ := id hq
        unfold wordOk at y2 y3
        obtain ⟨s1, hs1⟩ : ∃ s', wname s l[j].nat.name = s' := ⟨_, rfl⟩
        obtain ⟨s5, hs5⟩ : ∃ s', whead s l[j].nat = s' := ⟨_, rfl⟩
        have f1 := wname_fine hfin.1 l[j].nat.name
        rw [hs1] at f1
        have f5 := whead_fine hfin.1 l[j].nat
        rw [hs5] at f5
        have hk5 := whead_known hkn hq
        rw [hs5] at hk5
        have hs51 : s5.1 = s1.1 ++ wd l[j].nat.ty ++ wd l[j].nat.cl ++ (wd (l[j].nat.ttl / 65536) ++ wd (l[j].nat.ttl % 65536)) := by
          rw [← hs5, ← hs1]
          show (wname s l[j].nat.name).1 ++ wd l[j].nat.ty ++ wd l[j].nat.cl ++ wd (l[j].nat.ttl / 65536) ++ wd (l[j].nat.ttl % 65536) = _
          rw [append_assoc' _ (wd (l[j].nat.ttl / 65536))]
        have hs52 : s5.2 = s1.2 := by rw [← hs5, ← hs1]; rfl
        have key1 := fun W (h : TxS W N T s) => shortS_t N T s l[j].nat.name W h hfin.1 hkn (by omega) n6
        rw [hs1] at key1
        have key2 := fun w => high2 l[j].ty l[j].nat.ty w (by show l[j].ty = ((l[j].ty.toNat : Nat) : Int); omega) (by omega)
        have key3 := fun w => high2 l[j].cl l[j].nat.cl w (by show l[j].cl = ((l[j].cl.toNat : Nat) : Int); omega) (by omega)
        have key4 := fun w => high4 l[j].ttl l[j].nat.ttl w (by show l[j].ttl = ((l[j].ttl.toNat : Nat) : Int); omega) (by omega)
        have f51 := f5.1.1
        have key5 := fun W (h : Tx W N T s5.1 s5.2) => data_t N T s5.1 s5.2 l[j].nat.ty l[j].nat.data W h (by omega) f5.1.2 (by omega) hk5 n7
        have e6 : ((l[j].nat.ty : Nat) : Int) = l[j].ty := by show ((l[j].ty.toNat : Nat) : Int) = _; omega
        have hwr : wrec s l[j].nat = (s5.1 ++ wd (sdata s5.2 l[j].nat.data l[j].nat.ty (s5.1.size + 2)).1.size ++ (sdata s5.2 l[j].nat.data l[j].nat.ty (s5.1.size + 2)).1, (sdata s5.2 l[j].nat.data l[j].nat.ty (s5.1.size + 2)).2) := by unfold wrec; rw [hs5]
        rw [e6] at key5
        obtain ⟨sn, hsn⟩ : ∃ s', wrec s l[j].nat = s' := ⟨_, rfl⟩
        have key5' : ∀ W, Tx W N T s5.1 s5.2 → Calls Try.prog 89 #[.pointer (some ⟨T, 0, none⟩), .int .i64 l[j].ty, .string l[j].data] W fun e w' => e = .returned (.tuple #[]) ∧ TxS w' N T sn ∧ TFrame N W w' := by
          intro W h
          rw [← hsn, hwr]
          exact key5 W h
        rw [hsn] at hnx
        have z1 := wd_size l[j].nat.ty
        have z2 := wd_size l[j].nat.cl
        have z3 : (wd (l[j].nat.ttl / 65536) ++ wd (l[j].nat.ttl % 65536)).size = 4 := by rw [ByteArray.size_append, wd_size, wd_size]
        have hB1 : s1.1.size ≤ 70000 := by omega
        have HB5 := hide hs51
        have HK5 := hide hs52
        have K1 := hide key1
        have K2 := hide key2
        have K3 := hide key3
        have K4 := hide key4
        have K5 := hide key5'
        have HNx := hide hnx
        clear key1 key2 key3 key4 key5 key5' hnx hst hs1 hs5 hs51 hs52 hwr hsn f1 f5 f51 hk5 hfin hkn n1 n2 n3 n4 n5 n6 n7 y1 y2 y3 y4 y5 e6 hq
        generalize wd (l[j].nat.ttl / 65536) ++ wd (l[j].nat.ttl % 65536) = q3 at *
        generalize wd l[j].nat.ty = q1 at *
        generalize wd l[j].nat.cl = q2 at *
        have e7 : l[j].nat.name = l[j].name := rfl
        rw [e7] at K1
        clear e7
        generalize l[j] = x at *
        obtain ⟨nm, ty, kl, ttl, dt⟩ := x
        simp only at *
        obtain ⟨B, K⟩ := s
        obtain ⟨ah, ch, hR, hNT, o1⟩ := unhide hW
        obtain ⟨c0, c1, v0, v1⟩ := tx_cells hR
        clear hR o1
        simp only at *
        have hNw : N ≤ wr.heap.size := Nat.le_trans hN (unhide hG).size
        have hal := (Below.refl wr.heap.size wr).alloc (Nat.le_refl _) (.cells #[.string nm, .int .i64 ty, .int .i64 kl, .int .i64 ttl, .string dt] 86)
        have HT0 := hide ((unhide hW).below hal)
        have HX0 := hide (heap_alloc_new wr (.cells #[.string nm, .int .i64 ty, .int .i64 kl, .int .i64 ttl, .string dt] 86))
        have HG0 := hide ((unhide hG).trans (TFrame.of_below hal))
        obtain ⟨X, hX⟩ : ∃ X, wr.heap.size = X := ⟨_, rfl⟩
        clear hal
        go_wp2_with fail
        refine (unhide K1 _ (unhide HT0)).mono ?_
        rintro e w1 ⟨rfl, h1, g1⟩
        have HX1 := hide (g1.box (unhide HX0) (by decide) (by decide))
        rw [hX] at HX1
        have G1 := hide ((unhide HG0).trans g1)
        have H1 := hide h1
        clear h1 g1 HX0 HT0 HG0 hW hG c0 c1 v0 v1 x0 x1 x2 x3 x4 hX
        obtain ⟨⟨b0, b1, b2, b3, b4⟩, r0, r1, r2, r3, r4⟩ := cells5 (unhide HX1)
        obtain ⟨B1, KK1⟩ := s1
        obtain ⟨ah1, ch1, hR1, hNT1, o11⟩ := unhide H1
        obtain ⟨c0, c1, v0, v1⟩ := tx_cells hR1
        have HR1 := hide hR1
        have hlt1 := blk_lt hR1
        have hltX := blk_lt (unhide HX1)
        have hne : X ≠ T := fun e => by subst e; have := unhide HX1; rw [hR1] at this; cases this
        have hne2 : T ≠ X := Ne.symm hne
        clear hR1 o11
        simp only at *
        have q12 : (B1 ++ q1).size = B1.size + 2 := by rw [ByteArray.size_append]; omega
        have q13 : (B1 ++ q1 ++ q2).size = B1.size + 4 := by rw [ByteArray.size_append]; omega
        have g1 : ¬ (9223372036854775807 < B1.size + 2) := by omega
        have g2 : ¬ (9223372036854775807 < B1.size + 2 + 2) := by omega
        have g3 : ¬ (9223372036854775807 < B1.size + 4) := by omega
        have g4 : ¬ (9223372036854775807 < B1.size + 4 + 4) := by omega
        have g5 : ¬ (9223372036854775807 < B1.size + 8) := by omega
        go_wp2_with fail
        go_cut [4, 5] (fun i p w' => i = .int .i64 j ∧ p = .pointer (some ⟨X, 0, none⟩) ∧ Hid (Tx w' N T (B1 ++ q1 ++ q2 ++ q3) KK1) ∧ Hid (TFrame N w w') ∧ Hid (w'.heap[X]? = some (.cells #[.string nm, .int .i64 ty, .int .i64 kl, .int .i64 ttl, .string dt] 86 (0, 0))))
        case first =>
          refine wp_region_noPanic ?_
          refine wp_region_anyB (fun u => u.cell? ⟨T, 0, none⟩ = some (.string B1) ∧ u.cell? ⟨X, 1, none⟩ = some (.int .i64 ty) ∧ u.cell? ⟨X, 2, none⟩ = some (.int .i64 kl) ∧ u.cell? ⟨X, 3, none⟩ = some (.int .i64 ttl)) 19 (by kernel_rfl) ?_
          have hS1 : w1.drew.cell? ⟨T, 0, none⟩ = some (.string B1) ∧ w1.drew.cell? ⟨X, 1, none⟩ = some (.int .i64 ty) ∧ w1.drew.cell? ⟨X, 2, none⟩ = some (.int .i64 kl) ∧ w1.drew.cell? ⟨X, 3, none⟩ = some (.int .i64 ttl) := ⟨c0, b1, b2, b3⟩
          refine anyB_take (i := 0) (v := ?_) rfl rfl (by kernel_rfl) (by kernel_rfl) (by kernel_rfl) (by kernel_rfl) (fun _ _ _ h => h) (Or.inl ⟨by rfl, ?_⟩) hS1 ?_
          rotate_left
          · intro u hu
            obtain ⟨u0, u1, u2, u3⟩ := hu
            go_simp
            try with_reducible rfl
          try simp only [Act.put]
          refine anyB_take (i := 1) (v := ?_) rfl rfl (by kernel_rfl) (by kernel_rfl) (by kernel_rfl) (by kernel_rfl) (fun _ _ _ h => h) (Or.inl ⟨by rfl, ?_⟩) hS1 ?_
          rotate_left
          · intro u hu
            obtain ⟨u0, u1, u2, u3⟩ := hu
            go_simp
            try with_reducible rfl
          try simp only [Act.put]
          refine anyB_take (i := 2) (v := ?_) rfl rfl (by kernel_rfl) (by kernel_rfl) (by kernel_rfl) (by kernel_rfl) (fun _ _ _ h => h) (Or.inl ⟨by rfl, ?_⟩) hS1 ?_
          rotate_left
          · intro u hu
            obtain ⟨u0, u1, u2, u3⟩ := hu
            go_simp
            try with_reducible rfl
          try simp only [Act.put]
          refine anyB_take (i := 3) (v := ?_) rfl rfl (by kernel_rfl) (by kernel_rfl) (by kernel_rfl) (by kernel_rfl) (fun _ _ _ h => h) (Or.inl ⟨by rfl, ?_⟩) hS1 ?_
          rotate_left
          · intro u hu
            obtain ⟨u0, u1, u2, u3⟩ := hu
            go_simp
            try with_reducible rfl
          try simp only [Act.put]
          refine anyB_take (i := 4) (v := ?_) rfl rfl (by kernel_rfl) (by kernel_rfl) (by kernel_rfl) (by kernel_rfl) (fun _ _ _ h => h) (Or.inl ⟨by rfl, ?_⟩) hS1 ?_
          rotate_left
          · intro u hu
            obtain ⟨u0, u1, u2, u3⟩ := hu
            go_simp
            try with_reducible rfl
          try simp only [Act.put]
          refine anyB_take (i := 5) (v := ?_) rfl rfl (by kernel_rfl) (by kernel_rfl) (by kernel_rfl) (by kernel_rfl) (fun _ _ _ h => h) (Or.inl ⟨by rfl, ?_⟩) hS1 ?_
          rotate_left
          · intro u hu
            obtain ⟨u0, u1, u2, u3⟩ := hu
            go_simp
            try with_reducible rfl
          try simp only [Act.put]
          refine anyB_take (i := 6) (v := ?_) rfl rfl (by kernel_rfl) (by kernel_rfl) (by kernel_rfl) (by kernel_rfl) (fun _ _ _ h => h) (Or.inl ⟨by rfl, ?_⟩) hS1 ?_
          rotate_left
          · intro u hu
            obtain ⟨u0, u1, u2, u3⟩ := hu
            go_simp
            try with_reducible rfl
          try simp only [Act.put]
          refine anyB_take (i := 9) (v := ?_) rfl rfl (by kernel_rfl) (by kernel_rfl) (by kernel_rfl) (by kernel_rfl) (fun _ _ _ h => h) (Or.inl ⟨by rfl, ?_⟩) hS1 ?_
          rotate_left
          · intro u hu
            obtain ⟨u0, u1, u2, u3⟩ := hu
            go_simp
            try with_reducible rfl
          try simp only [Act.put]
          refine anyB_take (i := 10) (v := ?_) rfl rfl (by kernel_rfl) (by kernel_rfl) (by kernel_rfl) (by kernel_rfl) (fun _ _ _ h => h) (Or.inl ⟨by rfl, ?_⟩) hS1 ?_
          rotate_left
          · intro u hu
            obtain ⟨u0, u1, u2, u3⟩ := hu
            go_simp
            try with_reducible rfl
          try simp only [Act.put]
          refine anyB_take (i := 13) (v := ?_) rfl rfl (by kernel_rfl) (by kernel_rfl) (by kernel_rfl) (by kernel_rfl) (fun _ _ _ h => h) (Or.inl ⟨by rfl, ?_⟩) hS1 ?_
          rotate_left
          · intro u hu
            obtain ⟨u0, u1, u2, u3⟩ := hu
            go_simp
            try with_reducible rfl
          try simp only [Act.put]
          refine anyB_take (i := 14) (v := ?_) rfl rfl (by kernel_rfl) (by kernel_rfl) (by kernel_rfl) (by kernel_rfl) (fun _ _ _ h => h) (Or.inl ⟨by rfl, ?_⟩) hS1 ?_
          rotate_left
          · intro u hu
            obtain ⟨u0, u1, u2, u3⟩ := hu
            go_simp
            try with_reducible rfl
          try simp only [Act.put]
          refine anyB_one (i := 7) rfl (by kernel_rfl) (fun K hK => ?_)
          go_simp
          refine (unhide K2 _).mono ?_
          rintro e w2 ⟨rfl, hb2⟩
          have hS2 := (⟨(hb2.cell (p := ⟨T, 0, none⟩) (blk_lt (unhide HR1))).trans hS1.1, (hb2.cell (p := ⟨X, 1, none⟩) (blk_lt (unhide HX1))).trans hS1.2.1, (hb2.cell (p := ⟨X, 2, none⟩) (blk_lt (unhide HX1))).trans hS1.2.2.1, (hb2.cell (p := ⟨X, 3, none⟩) (blk_lt (unhide HX1))).trans hS1.2.2.2⟩ : w2.cell? ⟨T, 0, none⟩ = some (.string B1) ∧ w2.cell? ⟨X, 1, none⟩ = some (.int .i64 ty) ∧ w2.cell? ⟨X, 2, none⟩ = some (.int .i64 kl) ∧ w2.cell? ⟨X, 3, none⟩ = some (.int .i64 ttl))
          refine hK _ _ (fun _ => hS2) ?_
          clear hK K
          try simp only [Act.put]
          have HX2 := hide ((hb2.block X (blk_lt (unhide HX1))).trans (unhide HX1))
          have HR2 := hide ((hb2.block T (blk_lt (unhide HR1))).trans (unhide HR1))
          refine anyB_take (i := 8) (v := ?_) rfl rfl (by kernel_rfl) (by kernel_rfl) (by kernel_rfl) (by kernel_rfl) (fun _ _ _ h => h) (Or.inl ⟨by rfl, ?_⟩) hS2 ?_
          rotate_left
          · intro u hu
            obtain ⟨u0, u1, u2, u3⟩ := hu
            go_simp
            try with_reducible rfl
          try simp only [Act.put]
          refine anyB_one (i := 11) rfl (by kernel_rfl) (fun K hK => ?_)
          go_simp
          refine (unhide K3 _).mono ?_
          rintro e w3 ⟨rfl, hb3⟩
          have hS3 := (⟨(hb3.cell (p := ⟨T, 0, none⟩) (blk_lt (unhide HR2))).trans hS2.1, (hb3.cell (p := ⟨X, 1, none⟩) (blk_lt (unhide HX2))).trans hS2.2.1, (hb3.cell (p := ⟨X, 2, none⟩) (blk_lt (unhide HX2))).trans hS2.2.2.1, (hb3.cell (p := ⟨X, 3, none⟩) (blk_lt (unhide HX2))).trans hS2.2.2.2⟩ : w3.cell? ⟨T, 0, none⟩ = some (.string B1) ∧ w3.cell? ⟨X, 1, none⟩ = some (.int .i64 ty) ∧ w3.cell? ⟨X, 2, none⟩ = some (.int .i64 kl) ∧ w3.cell? ⟨X, 3, none⟩ = some (.int .i64 ttl))
          refine hK _ _ (fun _ => hS3) ?_
          clear hK K
          try simp only [Act.put]
          have HX3 := hide ((hb3.block X (blk_lt (unhide HX2))).trans (unhide HX2))
          have HR3 := hide ((hb3.block T (blk_lt (unhide HR2))).trans (unhide HR2))
          refine anyB_take (i := 12) (v := ?_) rfl rfl (by kernel_rfl) (by kernel_rfl) (by kernel_rfl) (by kernel_rfl) (fun _ _ _ h => h) (Or.inl ⟨by rfl, ?_⟩) hS3 ?_
          rotate_left
          · intro u hu
            obtain ⟨u0, u1, u2, u3⟩ := hu
            go_simp
            try with_reducible rfl
          try simp only [Act.put]
          refine anyB_one (i := 15) rfl (by kernel_rfl) (fun K hK => ?_)
          go_simp
          refine (unhide K4 _).mono ?_
          rintro e w4 ⟨rfl, hb4⟩
          have hS4 := (⟨(hb4.cell (p := ⟨T, 0, none⟩) (blk_lt (unhide HR3))).trans hS3.1, (hb4.cell (p := ⟨X, 1, none⟩) (blk_lt (unhide HX3))).trans hS3.2.1, (hb4.cell (p := ⟨X, 2, none⟩) (blk_lt (unhide HX3))).trans hS3.2.2.1, (hb4.cell (p := ⟨X, 3, none⟩) (blk_lt (unhide HX3))).trans hS3.2.2.2⟩ : w4.cell? ⟨T, 0, none⟩ = some (.string B1) ∧ w4.cell? ⟨X, 1, none⟩ = some (.int .i64 ty) ∧ w4.cell? ⟨X, 2, none⟩ = some (.int .i64 kl) ∧ w4.cell? ⟨X, 3, none⟩ = some (.int .i64 ttl))
          refine hK _ _ (fun _ => hS4) ?_
          clear hK K
          try simp only [Act.put]
          have HX4 := hide ((hb4.block X (blk_lt (unhide HX3))).trans (unhide HX3))
          have HR4 := hide ((hb4.block T (blk_lt (unhide HR3))).trans (unhide HR3))
          refine anyB_take (i := 16) (v := ?_) rfl rfl (by kernel_rfl) (by kernel_rfl) (by kernel_rfl) (by kernel_rfl) (fun _ _ _ h => h) (Or.inl ⟨by rfl, ?_⟩) hS4 ?_
          rotate_left
          · intro u hu
            obtain ⟨u0, u1, u2, u3⟩ := hu
            go_simp
            try with_reducible rfl
          try simp only [Act.put]
          refine anyB_one (i := 17) rfl (by kernel_rfl) (fun K hK => ?_)
          go_simp
          refine hK _ _ (fun _ => hS4) ?_
          clear hK K
          try simp only [Act.put]
          refine anyB_one (i := 18) rfl (by kernel_rfl) (fun K hK => ?_)
          go_simp
          refine hK _ _ (fun _ => hS4) ?_
          clear hK K
          try simp only [Act.put]
          obtain ⟨d0, d1, u0, u1⟩ := tx_cells (unhide HR4)
          refine anyB_one (i := 19) rfl (by kernel_rfl) (fun K hK => ?_)
          go_simp
          refine hK _ _ (fun h => absurd rfl h) (anyB_done (by kernel_rfl) ?_ _)
          clear hK K
          refine NoPanic.normal ?_
          go_wp2_with fail
          go_meet
          have hb5 := ((below_undrew hb2).trans (hb3.mono hb2.size)).trans (hb4.mono (Nat.le_trans hb2.size hb3.size))
          obtain ⟨p1, p2⟩ := tx_set ((unhide H1).below hb5) (B1 ++ q1 ++ q2 ++ q3)
          exact ⟨rfl, rfl, p1, ((unhide G1).trans (TFrame.of_below hb5)).trans p2, (blk_set_other hne _ _).trans ((hb5.block X hltX).trans (unhide HX1))⟩
        case rest =>
          obtain ⟨rfl, rfl, h5, G5, HX5⟩ := hcut
          clear c0 c1 v0 v1 b0 b1 b2 b3 b4 r0 r1 r2 r3 r4
          obtain ⟨⟨b0, b1, b2, b3, b4⟩, r0, r1, r2, r3, r4⟩ := cells5 (unhide HX5)
          rw [← unhide HB5, ← unhide HK5] at h5
          go_wp2_with fail
          refine (unhide K5 _ (unhide h5)).mono ?_
          rintro e w6 ⟨rfl, h6, g6⟩
          have H6 := hide h6
          have G6 := hide ((unhide G5).trans g6)
          clear h6 g6 b0 b1 b2 b3 b4 r0 r1 r2 r3 r4
          go_wp2_with fail
          go_roundw
          case rel => exact ⟨j + 1, by go_num, by omega, by rw [unhide HNx]; exact H6, G6⟩
          case measure => simp [intOf]; omega
    · have hjn : l.take j = l := List.take_of_length_le (by omega)
      rw [hjn, unhide HRes] at hW
      clear hfin hjn hkn
      go_wp2_with fail
      go_end0
      exact ⟨rfl, unhide hW, unhide hG⟩

end Go.Proofs.Ytdhobdmhnocbgaa
