/-
  Walks: the writer's lists (questions, records), a whole message, Serialize.
-/
import Derived.Test.YtdhobdmhnocbgaaQSerX
namespace Go.Proofs.Ytdhobdmhnocbgaa
open Go.RowKit Zr

theorem full_st (N R : Nat) (st : St) (w : World) (h : WrS w N R st) (hB : st.1.size ≤ 400000) (b : Bool) (hb : Hid (decide (65535 < st.1.size) = b)) :
    Calls Try.prog 84 #[.pointer (some ⟨R, 0, none⟩)] w fun e w' => e = .returned (.bool b) ∧ w' = w := by
  rw [← unhide hb]
  exact full_w N R st.1 st.2 w h hB

set_option maxRecDepth 100000 in
set_option maxHeartbeats 2000000 in
theorem questions_w (N R : Nat) (st : St) (l : List QI) (a : Option Addr) (c : Nat) (w : World) (h : WrS w N R st) (hF : Fine st) (hB : st.1.size ≤ 140000) (hl : quesOk l) (hrow : RowAt w N a (qcI l)) (hN : N ≤ w.heap.size) :
    Calls Try.prog 122 #[.pointer (some ⟨R, 0, none⟩), .slice a l.length c] w fun e w' => e = .returned (.tuple #[]) ∧ WrS w' N R ((l.map QI.nat).foldl stepQ st) ∧ WFrame N w w' := by
  have HF := hide hF
  have HRow := hide hrow
  have HL := hide hl
  have hlen := hl.1
  have H := hide h
  have HAt := hide (fun (i : Nat) (hi : i < l.length) => fold_at stepQ QI.nat l st i hi)
  have HRest := hide (fold_rest stepQ QI.nat l st)
  have HFine := hide (fun i => foldQ_fine hF hB (l.take i) (fun x hx => ques_mem hl x (List.mem_of_mem_take hx)))
  clear hF hrow hl h
  obtain ⟨res, hres⟩ : ∃ r, (l.map QI.nat).foldl stepQ st = r := ⟨_, rfl⟩
  rw [hres]
  have HRes := hide hres
  clear hres
  go_enter Try.func122, Try.ntmps122
  go_wp2_with fail
  go_loopw [4] (fun i w' => ∃ j : Nat, i = .int .i64 j ∧ j ≤ l.length ∧ Hid (WrS w' N R (((l.take j).map QI.nat).foldl stepQ st)) ∧ Hid (WFrame N w w')) (fun i _ => l.length - (intOf i).toNat)
  case atStart => exact ⟨0, rfl, Nat.zero_le _, H, WFrame.refl _ _⟩
  case round =>
    obtain ⟨j, rfl, hj, hW, hG⟩ := hrel
    have hfin := unhide HFine j
    by_cases cj : j < l.length
    · by_cases cf : 65535 < (((l.take j).map QI.nat).foldl stepQ st).1.size
      · have hend : ((l.take j).map QI.nat).foldl stepQ st = res := by
          rw [← unhide HRes, unhide HRest j]
          exact (foldl_full stepQ stepQ_full _ cf _).symm
        have HEnd := hide hend
        have hd : Hid (decide (65535 < (((l.take j).map QI.nat).foldl stepQ st).1.size) = true) := decide_eq_true cf
        have hz := hfin.2
        clear hend cf hfin
        generalize ((l.take j).map QI.nat).foldl stepQ st = s at *
        go_wp2_with fail
        refine (full_st N R s _ (unhide hW) (by omega) true hd).mono ?_
        rintro e w' ⟨rfl, rfl⟩
        go_wp2_with fail
        go_end0
        exact ⟨rfl, by rw [← unhide HEnd]; exact unhide hW, unhide hG⟩
      · have hnx := unhide HAt j cj
        have hq := (unhide HL).2 j cj
        obtain ⟨q1, q2, q3, q4⟩ := queOk_nat hq
        obtain ⟨_, q5, q6⟩ := hq
        unfold wordOk at q5 q6
        obtain ⟨b, o, rfl, hb, x0, x1, x2⟩ := row_q ((unhide HRow).below ((unhide hG).below hN)) j cj
        have hd : Hid (decide (65535 < (((l.take j).map QI.nat).foldl stepQ st).1.size) = false) := decide_eq_false cf
        generalize ((l.take j).map QI.nat).foldl stepQ st = s at *
        have hst : stepQ s l[j].nat = wque s l[j].nat := by unfold stepQ; rw [if_neg cf]
        rw [hst] at hnx
        obtain ⟨s1, hs1⟩ : ∃ s', wname s l[j].nat.name = s' := ⟨_, rfl⟩
        obtain ⟨s2, hs2⟩ : ∃ s', wput s1 (wd l[j].nat.ty) = s' := ⟨_, rfl⟩
        have hwq : wque s l[j].nat = wput s2 (wd l[j].nat.cl) := by unfold wque; rw [hs1, hs2]
        rw [hwq] at hnx
        have f1 := wname_fine hfin.1 l[j].nat.name
        rw [hs1] at f1
        have f2 := wput_fine f1.1 (wd l[j].nat.ty)
        rw [hs2, wd_size] at f2
        have key1 := fun w (h : WrS w N R s) => name_st_w N R s l[j].nat.name w h hfin.1 (by omega) q4
        rw [hs1] at key1
        have key2 := fun w (h : WrS w N R s1) => put_st N R s1 l[j].ty l[j].nat.ty (by show l[j].ty = ((l[j].ty.toNat : Nat) : Int); omega) w h (by omega) (by omega)
        rw [hs2] at key2
        have key3 := fun w (h : WrS w N R s2) => put_st N R s2 l[j].cl l[j].nat.cl (by show l[j].cl = ((l[j].cl.toNat : Nat) : Int); omega) w h (by omega) (by omega)
        have e1 : l[j].nat.name = l[j].name := rfl
        rw [e1] at key1
        have K1 := hide key1
        have K2 := hide key2
        have K3 := hide key3
        have HNx := hide hnx
        have hz := hfin.2
        clear key1 key2 key3 hnx hst hs1 hs2 hwq f1 f2 q1 q2 q3 q4 q5 q6 e1 hfin cf
        obtain ⟨sn, hsn⟩ : ∃ s', wput s2 (wd l[j].nat.cl) = s' := ⟨_, rfl⟩
        rw [hsn] at K3 HNx
        clear hsn
        generalize l[j] = q at *
        obtain ⟨nm, ty, kl⟩ := q
        simp only at *
        go_wp2_with fail
        refine (full_st N R s _ (unhide hW) (by omega) false hd).mono ?_
        rintro e w' ⟨rfl, rfl⟩
        go_wp2_with fail
        refine (unhide K1 _ (unhide hW)).mono ?_
        rintro e w1 ⟨rfl, h1, g1⟩
        have y1 := ((g1.below (Nat.le_trans hN (unhide hG).size)).cell (p := ⟨b, o + j * 3 + 1, none⟩) hb).trans x1
        have y2 := ((g1.below (Nat.le_trans hN (unhide hG).size)).cell (p := ⟨b, o + j * 3 + 2, none⟩) hb).trans x2
        have G1 := hide ((unhide hG).trans g1)
        have H1 := hide h1
        clear h1 g1 x0 x1 x2 hW hG
        go_wp2_with fail
        refine (unhide K2 _ (unhide H1)).mono ?_
        rintro e w2 ⟨rfl, h2, g2⟩
        have x2 := ((g2.below (Nat.le_trans hN (unhide G1).size)).cell (p := ⟨b, o + j * 3 + 2, none⟩) hb).trans y2
        have G2 := hide ((unhide G1).trans g2)
        have H2 := hide h2
        clear h2 g2 y1 y2
        go_wp2_with fail
        refine (unhide K3 _ (unhide H2)).mono ?_
        rintro e w3 ⟨rfl, h3, g3⟩
        have G3 := hide ((unhide G2).trans g3)
        have H3 := hide h3
        clear h3 g3 x2
        go_wp2_with fail
        go_roundw
        case rel => exact ⟨j + 1, by go_num, by omega, by rw [unhide HNx]; exact H3, G3⟩
        case measure => simp [intOf]; omega
    · have hjn : l.take j = l := List.take_of_length_le (by omega)
      rw [hjn, unhide HRes] at hW
      clear hfin hjn
      go_wp2_with fail
      go_end0
      exact ⟨rfl, unhide hW, unhide hG⟩

set_option maxRecDepth 100000 in
set_option maxHeartbeats 2000000 in
theorem records_w (N R : Nat) (st : St) (l : List RI) (part : Nat) (a : Option Addr) (c : Nat) (w : World) (h : WrS w N R st) (hF : Fine st) (hB : st.1.size ≤ 140000) (hl : partOk l part) (hrow : RowAt w N a (rcI l)) (hN : N ≤ w.heap.size) :
    Calls Try.prog 123 #[.pointer (some ⟨R, 0, none⟩), .slice a l.length c] w fun e w' => e = .returned (.tuple #[]) ∧ WrS w' N R ((l.map RI.nat).foldl stepR st) ∧ WFrame N w w' := by
  have HF := hide hF
  have HRow := hide hrow
  have HL := hide hl
  have hlen := hl.1
  have H := hide h
  have HAt := hide (fun (i : Nat) (hi : i < l.length) => fold_at stepR RI.nat l st i hi)
  have HRest := hide (fold_rest stepR RI.nat l st)
  have HFine := hide (fun i => foldR_fine hF hB (l.take i) (fun x hx => part_mem hl x (List.mem_of_mem_take hx)))
  clear hF hrow hl h
  obtain ⟨res, hres⟩ : ∃ r, (l.map RI.nat).foldl stepR st = r := ⟨_, rfl⟩
  rw [hres]
  have HRes := hide hres
  clear hres
  go_enter Try.func123, Try.ntmps123
  go_wp2_with fail
  go_loopw [4] (fun i w' => ∃ j : Nat, i = .int .i64 j ∧ j ≤ l.length ∧ Hid (WrS w' N R (((l.take j).map RI.nat).foldl stepR st)) ∧ Hid (WFrame N w w')) (fun i _ => l.length - (intOf i).toNat)
  case atStart => exact ⟨0, rfl, Nat.zero_le _, H, WFrame.refl _ _⟩
  case round =>
    obtain ⟨j, rfl, hj, hW, hG⟩ := hrel
    have hfin := unhide HFine j
    by_cases cj : j < l.length
    · by_cases cf : 65535 < (((l.take j).map RI.nat).foldl stepR st).1.size
      · have hend : ((l.take j).map RI.nat).foldl stepR st = res := by
          rw [← unhide HRes, unhide HRest j]
          exact (foldl_full stepR stepR_full _ cf _).symm
        have HEnd := hide hend
        have hd : Hid (decide (65535 < (((l.take j).map RI.nat).foldl stepR st).1.size) = true) := decide_eq_true cf
        have hz := hfin.2
        clear hend cf hfin
        generalize ((l.take j).map RI.nat).foldl stepR st = s at *
        go_wp2_with fail
        refine (full_st N R s _ (unhide hW) (by omega) true hd).mono ?_
        rintro e w' ⟨rfl, rfl⟩
        go_wp2_with fail
        go_end0
        exact ⟨rfl, by rw [← unhide HEnd]; exact unhide hW, unhide hG⟩
      · have hnx := unhide HAt j cj
        have hq := ((unhide HL).2 j cj).1
        obtain ⟨b, o, rfl, hb, x0, x1, x2, x3, x4⟩ := row_r ((unhide HRow).below ((unhide hG).below hN)) j cj
        have hd : Hid (decide (65535 < (((l.take j).map RI.nat).foldl stepR st).1.size) = false) := decide_eq_false cf
        generalize ((l.take j).map RI.nat).foldl stepR st = s at *
        have hst : stepR s l[j].nat = wrec s l[j].nat := by unfold stepR; rw [if_neg cf]
        rw [hst] at hnx
        have key1 := fun w (h : WrS w N R s) => record_w N R s l[j] w h hfin.1 (by omega) hq
        unfold rValI at key1
        have K1 := hide key1
        have HNx := hide hnx
        have hz := hfin.2
        clear key1 hnx hst hfin cf hq
        obtain ⟨sn, hsn⟩ : ∃ s', wrec s l[j].nat = s' := ⟨_, rfl⟩
        rw [hsn] at K1 HNx
        clear hsn
        generalize l[j] = q at *
        obtain ⟨nm, ty, kl, ttl, dt⟩ := q
        simp only at *
        go_wp2_with fail
        refine (full_st N R s _ (unhide hW) (by omega) false hd).mono ?_
        rintro e w' ⟨rfl, rfl⟩
        go_wp2_with fail
        refine (unhide K1 _ (unhide hW)).mono ?_
        rintro e w1 ⟨rfl, h1, g1⟩
        have G1 := hide ((unhide hG).trans g1)
        have H1 := hide h1
        clear h1 g1 x0 x1 x2 x3 x4 hW hG
        go_wp2_with fail
        go_roundw
        case rel => exact ⟨j + 1, by go_num, by omega, by rw [unhide HNx]; exact H1, G1⟩
        case measure => simp [intOf]; omega
    · have hjn : l.take j = l := List.take_of_length_le (by omega)
      rw [hjn, unhide HRes] at hW
      clear hfin hjn
      go_wp2_with fail
      go_end0
      exact ⟨rfl, unhide hW, unhide hG⟩

theorem top_fine (m : Msg) : Fine (wtop m) ∧ (wtop m).1.size = 12 := by
  unfold wtop Fine
  simp only [ByteArray.size_append, wd_size]
  exact ⟨⟨Nat.zero_le _, KOk.nil⟩, trivial⟩

set_option maxRecDepth 100000 in
set_option maxHeartbeats 2000000 in
theorem message_w (N R : Nat) (m : MI) (v : Value) (w : World) (h : WrS w N R (⟨#[]⟩, [])) (hm : MsgAt w N v m) (hok : msgOk m) (hN : N ≤ w.heap.size) :
    Calls Try.prog 83 #[.pointer (some ⟨R, 0, none⟩), v] w fun e w' => e = .returned (.tuple #[]) ∧ WrS w' N R (writ m.nat) ∧ WFrame N w w' := by
  obtain ⟨a1, c1, a2, c2, a3, c3, a4, c4, rfl, r1, r2, r3, r4, z1, z2, z3, z4, _⟩ := hm
  clear z1 z2 z3 z4
  obtain ⟨o1, o2, o3, o4, o5, o6⟩ := hok
  unfold wordOk at o1 o2
  have l1 := o3.1
  have l2 := o4.1
  have l3 := o5.1
  have l4 := o6.1
  obtain ⟨t1, ht1⟩ : ∃ s, wput (⟨#[]⟩, []) (wd m.nat.id) = s := ⟨_, rfl⟩
  obtain ⟨t2, ht2⟩ : ∃ s, wput t1 (wd m.nat.flags) = s := ⟨_, rfl⟩
  obtain ⟨t3, ht3⟩ : ∃ s, wput t2 (wd m.q.length) = s := ⟨_, rfl⟩
  obtain ⟨t4, ht4⟩ : ∃ s, wput t3 (wd m.a.length) = s := ⟨_, rfl⟩
  obtain ⟨t5, ht5⟩ : ∃ s, wput t4 (wd m.u.length) = s := ⟨_, rfl⟩
  obtain ⟨t6, ht6⟩ : ∃ s, wput t5 (wd m.x.length) = s := ⟨_, rfl⟩
  have htop : wtop m.nat = t6 := by
    rw [← ht6, ← ht5, ← ht4, ← ht3, ← ht2, ← ht1]
    unfold wtop wput MI.nat
    simp only [List.length_map, empty_append]
  have hz1 : t1.1.size = 2 := by rw [← ht1]; rfl
  have hz2 : t2.1.size = 4 := by rw [← ht2]; unfold wput; simp only [ByteArray.size_append, wd_size]; omega
  have hz3 : t3.1.size = 6 := by rw [← ht3]; unfold wput; simp only [ByteArray.size_append, wd_size]; omega
  have hz4 : t4.1.size = 8 := by rw [← ht4]; unfold wput; simp only [ByteArray.size_append, wd_size]; omega
  have hz5 : t5.1.size = 10 := by rw [← ht5]; unfold wput; simp only [ByteArray.size_append, wd_size]; omega
  have f0 := top_fine m.nat
  rw [htop] at f0
  have fq := foldQ_fine f0.1 (by omega) m.q (ques_mem o3)
  obtain ⟨s1, hs1⟩ : ∃ s, (m.q.map QI.nat).foldl stepQ t6 = s := ⟨_, rfl⟩
  rw [hs1] at fq
  have fa := foldR_fine fq.1 fq.2 m.a (part_mem o4)
  obtain ⟨s2, hs2⟩ : ∃ s, (m.a.map RI.nat).foldl stepR s1 = s := ⟨_, rfl⟩
  rw [hs2] at fa
  have fu := foldR_fine fa.1 fa.2 m.u (part_mem o5)
  obtain ⟨s3, hs3⟩ : ∃ s, (m.u.map RI.nat).foldl stepR s2 = s := ⟨_, rfl⟩
  rw [hs3] at fu
  have hres : writ m.nat = (m.x.map RI.nat).foldl stepR s3 := by
    unfold writ
    rw [htop, ← hs3, ← hs2, ← hs1]
    rfl
  rw [hres]
  have key1 := fun w (h : WrS w N R (⟨#[]⟩, [])) => put_st N R (⟨#[]⟩, []) m.id m.nat.id (by show m.id = ((m.id.toNat : Nat) : Int); omega) w h (by show 0 ≤ _; omega) (by show m.id.toNat < _; omega)
  rw [ht1] at key1
  have key2 := fun w (h : WrS w N R t1) => put_st N R t1 m.flags m.nat.flags (by show m.flags = ((m.flags.toNat : Nat) : Int); omega) w h (by omega) (by show m.flags.toNat < _; omega)
  rw [ht2] at key2
  have key3 := fun w (h : WrS w N R t2) => put_st N R t2 ((m.q.length : Nat) : Int) m.q.length rfl w h (by omega) (by omega)
  rw [ht3] at key3
  have key4 := fun w (h : WrS w N R t3) => put_st N R t3 ((m.a.length : Nat) : Int) m.a.length rfl w h (by omega) (by omega)
  rw [ht4] at key4
  have key5 := fun w (h : WrS w N R t4) => put_st N R t4 ((m.u.length : Nat) : Int) m.u.length rfl w h (by omega) (by omega)
  rw [ht5] at key5
  have key6 := fun w (h : WrS w N R t5) => put_st N R t5 ((m.x.length : Nat) : Int) m.x.length rfl w h (by omega) (by omega)
  rw [ht6] at key6
  have key7 := fun W (h : WrS W N R t6) (hb : Below N w W) (hs : N ≤ W.heap.size) => questions_w N R t6 m.q a1 c1 W h f0.1 (by omega) o3 (r1.below hb) hs
  rw [hs1] at key7
  have key8 := fun W (h : WrS W N R s1) (hb : Below N w W) (hs : N ≤ W.heap.size) => records_w N R s1 m.a 0 a2 c2 W h fq.1 fq.2 o4 (r2.below hb) hs
  rw [hs2] at key8
  have key9 := fun W (h : WrS W N R s2) (hb : Below N w W) (hs : N ≤ W.heap.size) => records_w N R s2 m.u 1 a3 c3 W h fa.1 fa.2 o5 (r3.below hb) hs
  rw [hs3] at key9
  have key10 := fun W (h : WrS W N R s3) (hb : Below N w W) (hs : N ≤ W.heap.size) => records_w N R s3 m.x 2 a4 c4 W h fu.1 fu.2 o6 (r4.below hb) hs
  obtain ⟨s4, hs4⟩ : ∃ s, (m.x.map RI.nat).foldl stepR s3 = s := ⟨_, rfl⟩
  rw [hs4] at key10 ⊢
  have K1 := hide key1
  have K2 := hide key2
  have K3 := hide key3
  have K4 := hide key4
  have K5 := hide key5
  have K6 := hide key6
  have K7 := hide key7
  have K8 := hide key8
  have K9 := hide key9
  have K10 := hide key10
  have H := hide h
  clear key1 key2 key3 key4 key5 key6 key7 key8 key9 key10 h htop hres ht1 ht2 ht3 ht4 ht5 ht6 hs1 hs2 hs3 hs4 f0 fq fa fu r1 r2 r3 r4 o3 o4 o5 o6
  obtain ⟨id, fl, q, a, u, x⟩ := m
  simp only at *
  generalize hB0 : (w.alloc (.cells #[.int .i64 id, .int .i64 fl, .slice a1 q.length c1, .slice a2 a.length c2, .slice a3 u.length c3, .slice a4 x.length c4] 25)) = W0
  have hW0 : W0.heap[w.heap.size]? = some (.cells #[.int .i64 id, .int .i64 fl, .slice a1 q.length c1, .slice a2 a.length c2, .slice a3 u.length c3, .slice a4 x.length c4] 25 (0, 0)) := by rw [← hB0]; exact heap_alloc_new _ _
  have hB1 : Below w.heap.size w W0 := by rw [← hB0]; exact (Below.refl _ _).alloc (Nat.le_refl _) _
  have HB0 := hide hB0
  clear hB0
  go_enter Try.func83, Try.ntmps83
  go_wp2_with fail
  rw [unhide HB0]
  clear HB0
  obtain ⟨⟨b0, b1, b2, b3, b4, b5⟩, y0, y1, y2, y3, y4, y5⟩ := cells6 hW0
  refine (unhide K1 _ ((unhide H).below hB1)).mono ?_
  rintro e w1 ⟨rfl, h1, g1⟩
  have X1 := hide (g1.boxM hW0)
  have G1 := hide ((WFrame.of_below (N := N) hB1).trans g1)
  have H1 := hide h1
  clear h1 g1 hW0 hB1 b0 b1 b2 b3 b4 b5 y0 y1 y2 y3 y4 y5
  obtain ⟨⟨b0, b1, b2, b3, b4, b5⟩, y0, y1, y2, y3, y4, y5⟩ := cells6 (unhide X1)
  go_wp2_with fail
  refine (unhide K2 _ (unhide H1)).mono ?_
  rintro e w2 ⟨rfl, h2, g2⟩
  have X2 := hide (g2.boxM (unhide X1))
  have G2 := hide ((unhide G1).trans g2)
  have H2 := hide h2
  clear h2 g2 b0 b1 b2 b3 b4 b5 y0 y1 y2 y3 y4 y5
  obtain ⟨⟨b0, b1, b2, b3, b4, b5⟩, y0, y1, y2, y3, y4, y5⟩ := cells6 (unhide X2)
  go_wp2_with fail
  refine (unhide K3 _ (unhide H2)).mono ?_
  rintro e w3 ⟨rfl, h3, g3⟩
  have X3 := hide (g3.boxM (unhide X2))
  have G3 := hide ((unhide G2).trans g3)
  have H3 := hide h3
  clear h3 g3 b0 b1 b2 b3 b4 b5 y0 y1 y2 y3 y4 y5
  obtain ⟨⟨b0, b1, b2, b3, b4, b5⟩, y0, y1, y2, y3, y4, y5⟩ := cells6 (unhide X3)
  go_wp2_with fail
  refine (unhide K4 _ (unhide H3)).mono ?_
  rintro e w4 ⟨rfl, h4, g4⟩
  have X4 := hide (g4.boxM (unhide X3))
  have G4 := hide ((unhide G3).trans g4)
  have H4 := hide h4
  clear h4 g4 b0 b1 b2 b3 b4 b5 y0 y1 y2 y3 y4 y5
  obtain ⟨⟨b0, b1, b2, b3, b4, b5⟩, y0, y1, y2, y3, y4, y5⟩ := cells6 (unhide X4)
  go_wp2_with fail
  refine (unhide K5 _ (unhide H4)).mono ?_
  rintro e w5 ⟨rfl, h5, g5⟩
  have X5 := hide (g5.boxM (unhide X4))
  have G5 := hide ((unhide G4).trans g5)
  have H5 := hide h5
  clear h5 g5 b0 b1 b2 b3 b4 b5 y0 y1 y2 y3 y4 y5
  obtain ⟨⟨b0, b1, b2, b3, b4, b5⟩, y0, y1, y2, y3, y4, y5⟩ := cells6 (unhide X5)
  go_wp2_with fail
  refine (unhide K6 _ (unhide H5)).mono ?_
  rintro e w6 ⟨rfl, h6, g6⟩
  have X6 := hide (g6.boxM (unhide X5))
  have G6 := hide ((unhide G5).trans g6)
  have H6 := hide h6
  clear h6 g6 b0 b1 b2 b3 b4 b5 y0 y1 y2 y3 y4 y5
  obtain ⟨⟨b0, b1, b2, b3, b4, b5⟩, y0, y1, y2, y3, y4, y5⟩ := cells6 (unhide X6)
  go_wp2_with fail
  refine (unhide K7 _ (unhide H6) ((unhide G6).below hN) (Nat.le_trans hN (unhide G6).size)).mono ?_
  rintro e w7 ⟨rfl, h7, g7⟩
  have X7 := hide (g7.boxM (unhide X6))
  have G7 := hide ((unhide G6).trans g7)
  have H7 := hide h7
  clear h7 g7 b0 b1 b2 b3 b4 b5 y0 y1 y2 y3 y4 y5
  obtain ⟨⟨b0, b1, b2, b3, b4, b5⟩, y0, y1, y2, y3, y4, y5⟩ := cells6 (unhide X7)
  go_wp2_with fail
  refine (unhide K8 _ (unhide H7) ((unhide G7).below hN) (Nat.le_trans hN (unhide G7).size)).mono ?_
  rintro e w8 ⟨rfl, h8, g8⟩
  have X8 := hide (g8.boxM (unhide X7))
  have G8 := hide ((unhide G7).trans g8)
  have H8 := hide h8
  clear h8 g8 b0 b1 b2 b3 b4 b5 y0 y1 y2 y3 y4 y5
  obtain ⟨⟨b0, b1, b2, b3, b4, b5⟩, y0, y1, y2, y3, y4, y5⟩ := cells6 (unhide X8)
  go_wp2_with fail
  refine (unhide K9 _ (unhide H8) ((unhide G8).below hN) (Nat.le_trans hN (unhide G8).size)).mono ?_
  rintro e w9 ⟨rfl, h9, g9⟩
  have X9 := hide (g9.boxM (unhide X8))
  have G9 := hide ((unhide G8).trans g9)
  have H9 := hide h9
  clear h9 g9 b0 b1 b2 b3 b4 b5 y0 y1 y2 y3 y4 y5
  obtain ⟨⟨b0, b1, b2, b3, b4, b5⟩, y0, y1, y2, y3, y4, y5⟩ := cells6 (unhide X9)
  go_wp2_with fail
  refine (unhide K10 _ (unhide H9) ((unhide G9).below hN) (Nat.le_trans hN (unhide G9).size)).mono ?_
  rintro e wX ⟨rfl, hX, gX⟩
  have GX := hide ((unhide G9).trans gX)
  have HX := hide hX
  clear hX gX b0 b1 b2 b3 b4 b5 y0 y1 y2 y3 y4 y5
  go_wp2_with fail
  go_end0
  exact ⟨rfl, unhide HX, unhide GX⟩

end Go.Proofs.Ytdhobdmhnocbgaa
