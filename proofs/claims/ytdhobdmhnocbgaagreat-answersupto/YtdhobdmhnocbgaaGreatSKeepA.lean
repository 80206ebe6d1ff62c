/-
  Walks: the writer's records, questions, lists of them.
-/
/-
  Walks: the writer's lists (questions, records), a whole message, Serialize.
-/
/-
  Walks: Serialize.
-/
/-
  The plain side of what is known while a message is written: each tail that is known is read where it is known.
-/
/-
  The plain side of P9: what is written is read back, and is no longer than with whole names.
-/
/-
  Walks over zonekeep: messages that are the same; how many bytes a message takes with whole names.
-/
import Derived.Test.YtdhobdmhnocbgaaGreatSSerW
import Derived.Test.YtdhobdmhnocbgaaGreatSMsgx
import Derived.Test.YtdhobdmhnocbgaaGreatSParseX
import Derived.Deep.QuietTactic
import Derived.BigQuiet
namespace Go.Proofs.YtdhobdmhnocbgaaGreat
open Go.RowKit Zr

theorem WFrame.box {N k : Nat} {w a : World} {cs : Array Value} (h : WFrame N w a) (hr : w.heap[k]? = some (.cells cs 42 (0, 0))) : a.heap[k]? = some (.cells cs 42 (0, 0)) :=
  h.kind k _ _ _ hr (by decide) (by decide) (by decide)
theorem WFrame.boxM {N k : Nat} {w a : World} {cs : Array Value} (h : WFrame N w a) (hr : w.heap[k]? = some (.cells cs 32 (0, 0))) : a.heap[k]? = some (.cells cs 32 (0, 0)) :=
  h.kind k _ _ _ hr (by decide) (by decide) (by decide)

/-- The same, by a state. -/
def WrS (w : World) (N R : Nat) (st : St) : Prop := Wr w N R st.1 st.2

theorem put_st (N R : Nat) (st : St) (v : Int) (n : Nat) (hv : v = (n : Int)) (w : World) (h : WrS w N R st) (hB : st.1.size ≤ 399998) (hn : n < 65536) :
    Calls Tryz.prog 130 #[.pointer (some ⟨R, 0, none⟩), .int .i64 v] w fun e w' => e = .returned (.tuple #[]) ∧ WrS w' N R (wput st (wd n)) ∧ WFrame N w w' := by
  subst hv
  exact word_w N R st.1 st.2 n w h hB hn

theorem name_st_w (N R : Nat) (st : St) (s : ByteArray) (w : World) (h : WrS w N R st) (hF : Fine st) (hB : st.1.size ≤ 200000) (hs : wholeB s = true) :
    Calls Tryz.prog 153 #[.pointer (some ⟨R, 0, none⟩), .string s] w fun e w' => e = .returned (.tuple #[]) ∧ WrS w' N R (wname st s) ∧ WFrame N w w' := by
  have h1 := hF.1
  exact name_w N R st.1 st.2 s w h (by omega) hF.2 (by omega) hs

set_option maxRecDepth 100000 in
set_option maxHeartbeats 2000000 in
theorem record_w (N R : Nat) (st : St) (x : RI) (w : World) (h : WrS w N R st) (hF : Fine st) (hB : st.1.size ≤ 65535) (hx : recOk x) :
    Calls Tryz.prog 154 #[.pointer (some ⟨R, 0, none⟩), rValI x] w fun e w' => e = .returned (.tuple #[]) ∧ WrS w' N R (wrec st x.nat) ∧ WFrame N w w' := by
  obtain ⟨n1, n2, n3, n4, n5, n6, n7⟩ := recOk_nat hx
  obtain ⟨y1, y2, y3, y4, y5⟩ := hx
  unfold wordOk at y2 y3
  -- the states, one behind the other
  obtain ⟨s1, hs1⟩ : ∃ s, wname st x.nat.name = s := ⟨_, rfl⟩
  obtain ⟨s2, hs2⟩ : ∃ s, wput s1 (wd x.nat.ty) = s := ⟨_, rfl⟩
  obtain ⟨s3, hs3⟩ : ∃ s, wput s2 (wd x.nat.cl) = s := ⟨_, rfl⟩
  obtain ⟨s4, hs4⟩ : ∃ s, wput s3 (wd (x.nat.ttl / 65536)) = s := ⟨_, rfl⟩
  obtain ⟨s5, hs5⟩ : ∃ s, wput s4 (wd (x.nat.ttl % 65536)) = s := ⟨_, rfl⟩
  have hh : whead st x.nat = s5 := by unfold whead; rw [hs1, hs2, hs3, hs4, hs5]
  obtain ⟨dd, hdd⟩ : ∃ d, sdata s5.2 x.nat.data x.nat.ty (s5.1.size + 2) = d := ⟨_, rfl⟩
  have hres : wrec st x.nat = (s5.1 ++ wd dd.1.size ++ dd.1, dd.2) := by unfold wrec; rw [hh, hdd]
  have f1 := wname_fine hF x.nat.name
  rw [hs1] at f1
  have f2 := wput_fine f1.1 (wd x.nat.ty)
  rw [hs2, wd_size] at f2
  have f3 := wput_fine f2.1 (wd x.nat.cl)
  rw [hs3, wd_size] at f3
  have f4 := wput_fine f3.1 (wd (x.nat.ttl / 65536))
  rw [hs4, wd_size] at f4
  have f5 := wput_fine f4.1 (wd (x.nat.ttl % 65536))
  rw [hs5, wd_size] at f5
  have f6 := sdata_bounds s5.2 x.nat.data x.nat.ty (s5.1.size + 2) f5.1.2
  rw [hdd] at f6
  have f5' := f5.1.1
  have key1 := fun w (h : WrS w N R st) => name_st_w N R st x.nat.name w h hF (by omega) n6
  rw [hs1] at key1
  have key2 := fun w (h : WrS w N R s1) => put_st N R s1 x.ty x.nat.ty (by show x.ty = ((x.ty.toNat : Nat) : Int); omega) w h (by omega) (by omega)
  rw [hs2] at key2
  have key3 := fun w (h : WrS w N R s2) => put_st N R s2 x.cl x.nat.cl (by show x.cl = ((x.cl.toNat : Nat) : Int); omega) w h (by omega) (by omega)
  rw [hs3] at key3
  have key4 := fun w => long_at x.ttl x.nat.ttl w (by show x.ttl = ((x.ttl.toNat : Nat) : Int); omega) (by show x.ttl.toNat < _; omega)
  have key5 := fun w (h : WrS w N R s3) => bytes_w N R s3.1 s3.2 (q4 x.nat.ttl) w h (by omega) (by rw [q4_size]; omega)
  have e5 : s3.1 ++ q4 x.nat.ttl = s5.1 ∧ s3.2 = s5.2 := by
    rw [← hs5, ← hs4]
    unfold wput q4
    exact ⟨ByteArray.append_assoc.symm, rfl⟩
  rw [e5.1, e5.2] at key5
  obtain ⟨lf, hlf⟩ : ∃ s, q4 x.nat.ttl = s := ⟨_, rfl⟩
  rw [hlf] at key4 key5
  have key6 := fun w (h : WrS w N R s5) => shortData_w N R s5.1 s5.2 x.nat.data x.nat.ty (s5.1.size + 2) w h (by omega) f5.1.2 (by omega) n7
  rw [hdd] at key6
  have key6' : ∀ w, WrS w N R s5 → ∀ v : Int, v = ((s5.1.size : Nat) : Int) + 2 → Calls Tryz.prog 169 #[.pointer (some ⟨R, 0, none⟩), .string x.data, .int .i64 x.ty, .int .i64 v] w fun e w' => e = .returned (.string dd.1) ∧ Wr w' N R s5.1 dd.2 ∧ WFrame N w w' := by
    intro w h v hv
    have h1 := key6 w h
    have e1 : ((x.nat.ty : Nat) : Int) = x.ty := by show ((x.ty.toNat : Nat) : Int) = _; omega
    have e2 : ((s5.1.size + 2 : Nat) : Int) = v := by omega
    rw [e1, e2] at h1
    exact h1
  have hd6 := sdata_le s5.2 x.nat.data x.nat.ty (s5.1.size + 2) n7
  rw [hdd] at hd6
  have key7 := fun w (h : Wr w N R s5.1 dd.2) => put_st N R (s5.1, dd.2) ((dd.1.size : Nat) : Int) dd.1.size rfl w h (by show s5.1.size ≤ _; omega) (by omega)
  have key8 := fun w (h : Wr w N R (s5.1 ++ wd dd.1.size) dd.2) => bytes_w N R (s5.1 ++ wd dd.1.size) dd.2 dd.1 w h (by rw [ByteArray.size_append, wd_size]; omega) (by omega)
  have K1 := hide key1
  have K2 := hide key2
  have K3 := hide key3
  have K4 := hide key4
  have K5 := hide key5
  have K6 := hide key6'
  have K7 := hide key7
  have K8 := hide key8
  have HRes := hide hres
  have H := hide h
  have hsz5 : s5.1.size ≤ 65535 + 300 := by omega
  have hdz : dd.1.size ≤ 65535 := by omega
  clear key1 key2 key3 key4 key5 key6 key6' key7 key8 hres h hs1 hs2 hs3 hs4 hs5 hh hdd hlf e5 f1 f2 f3 f4 f5 f5' f6 n6 n7 y1 y5 hd6
  rw [unhide HRes]
  have e1 : x.nat.name = x.name := rfl
  rw [e1] at K1
  unfold rValI
  obtain ⟨nm, ty, kl, ttl, dt⟩ := x
  simp only at *
  obtain ⟨y41, y42⟩ := y4
  generalize hB0 : (w.alloc (.cells #[.string nm, .int .i64 ty, .int .i64 kl, .int .i64 ttl, .string dt] 42)) = W0
  have hW0 : W0.heap[w.heap.size]? = some (.cells #[.string nm, .int .i64 ty, .int .i64 kl, .int .i64 ttl, .string dt] 42 (0, 0)) := by rw [← hB0]; exact heap_alloc_new _ _
  have hB1 : Below w.heap.size w W0 := by rw [← hB0]; exact (Below.refl _ _).alloc (Nat.le_refl _) _
  have HB0 := hide hB0
  clear hB0
  go_enter Tryz.func154, Tryz.ntmps154
  go_wp2_with fail
  rw [unhide HB0]
  clear HB0
  refine (unhide K1 _ ((unhide H).below hB1)).mono ?_
  rintro e w1 ⟨rfl, h1, g1⟩
  have X1 := hide (g1.box hW0)
  have G1 := hide ((WFrame.of_below (N := N) hB1).trans g1)
  have H1 := hide h1
  clear h1 g1 hW0 hB1
  obtain ⟨⟨b0, b1, b2, b3, b4⟩, z0, z1, z2, z3, z4⟩ := cells5 (unhide X1)
  go_wp2_with fail
  refine (unhide K2 _ (unhide H1)).mono ?_
  rintro e w2 ⟨rfl, h2, g2⟩
  have X2 := hide (g2.box (unhide X1))
  have G2 := hide ((unhide G1).trans g2)
  have H2 := hide h2
  clear h2 g2 b0 b1 b2 b3 b4 z0 z1 z2 z3 z4
  obtain ⟨⟨b0, b1, b2, b3, b4⟩, z0, z1, z2, z3, z4⟩ := cells5 (unhide X2)
  go_wp2_with fail
  refine (unhide K3 _ (unhide H2)).mono ?_
  rintro e w3 ⟨rfl, h3, g3⟩
  have X3 := hide (g3.box (unhide X2))
  have G3 := hide ((unhide G2).trans g3)
  have H3 := hide h3
  clear h3 g3 b0 b1 b2 b3 b4 z0 z1 z2 z3 z4
  obtain ⟨⟨b0, b1, b2, b3, b4⟩, z0, z1, z2, z3, z4⟩ := cells5 (unhide X3)
  go_wp2_with fail
  refine (unhide K4 _).mono ?_
  rintro e w4 ⟨rfl, g4⟩
  have X4 := hide ((g4.block _ (blk_lt (unhide X3))).trans (unhide X3))
  have G4 := hide ((unhide G3).trans (WFrame.of_below g4))
  have H4 : Hid (WrS w4 N R s3) := hide (Wr.below (unhide H3) g4)
  clear g4 b0 b1 b2 b3 b4 z0 z1 z2 z3 z4
  obtain ⟨⟨b0, b1, b2, b3, b4⟩, z0, z1, z2, z3, z4⟩ := cells5 (unhide X4)
  go_wp2_with fail
  refine (unhide K5 _ (unhide H4)).mono ?_
  rintro e w5 ⟨rfl, h5, g5⟩
  have X5 := hide (g5.box (unhide X4))
  have G5 := hide ((unhide G4).trans g5)
  have H5 := hide h5
  obtain ⟨vb, ab, cb, vk, ak, ck, hR, hN, rfl, rfl, o1, o2⟩ := h5
  obtain ⟨c0, c1, v0, v1⟩ := wr_cells hR
  clear hR o1 o2 g5 b0 b1 b2 b3 b4 z0 z1 z2 z3 z4
  obtain ⟨⟨b0, b1, b2, b3, b4⟩, z0, z1, z2, z3, z4⟩ := cells5 (unhide X5)
  go_wp2_with fail
  refine (unhide K6 _ (unhide H5) _ rfl).mono ?_
  rintro e w6 ⟨rfl, h6, g6⟩
  have G6 := hide ((unhide G5).trans g6)
  have H6 := hide h6
  clear h6 g6 b0 b1 b2 b3 b4 z0 z1 z2 z3 z4 c0 c1 v0 v1
  go_wp2_with fail
  refine (unhide K7 _ (unhide H6)).mono ?_
  rintro e w7 ⟨rfl, h7, g7⟩
  have G7 := hide ((unhide G6).trans g7)
  have H7 := hide h7
  clear h7 g7
  go_wp2_with fail
  refine (unhide K8 _ (unhide H7)).mono ?_
  rintro e w8 ⟨rfl, h8, g8⟩
  have G8 := hide ((unhide G7).trans g8)
  have H8 := hide h8
  clear h8 g8
  go_wp2_with fail
  go_end0
  exact ⟨rfl, unhide H8, unhide G8⟩

end Go.Proofs.YtdhobdmhnocbgaaGreat

namespace Go.Proofs.YtdhobdmhnocbgaaGreat
open Go.RowKit Zr

theorem full_st (N R : Nat) (st : St) (w : World) (h : WrS w N R st) (hB : st.1.size ≤ 400000) (b : Bool) (hb : Hid (decide (65535 < st.1.size) = b)) :
    Calls Tryz.prog 101 #[.pointer (some ⟨R, 0, none⟩)] w fun e w' => e = .returned (.bool b) ∧ w' = w := by
  rw [← unhide hb]
  exact full_w N R st.1 st.2 w h hB

set_option maxRecDepth 100000 in
set_option maxHeartbeats 2000000 in
theorem questions_w (N R : Nat) (st : St) (l : List QI) (a : Option Addr) (c : Nat) (w : World) (h : WrS w N R st) (hF : Fine st) (hB : st.1.size ≤ 140000) (hl : quesOk l) (hrow : RowAt w N a (qcI l)) (hN : N ≤ w.heap.size) :
    Calls Tryz.prog 131 #[.pointer (some ⟨R, 0, none⟩), .slice a l.length c] w fun e w' => e = .returned (.tuple #[]) ∧ WrS w' N R ((l.map QI.nat).foldl stepQ st) ∧ WFrame N w w' := by
  have HF := hide hF
  have HRow := hide hrow
  have HL := hide hl
  have hlen := hl.1
  have H := hide h
  have HAt := hide (fun (i : Nat) (hi : i < l.length) => fold_at stepQ QI.nat l st i hi)
  have HRest := hide (fold_rest stepQ QI.nat l st)
  have HFine := hide (fun i => foldQ_fine hF hB (l.take i) (fun x hx => ques_mem hl x (List.mem_of_mem_take hx)))
  clear hF hrow hl h
  obtain ⟨res, hres⟩ : ∃ r, (l.map QI.nat).foldl stepQ st = r := ⟨_, rfl⟩
  rw [hres]
  have HRes := hide hres
  clear hres
  go_enter Tryz.func131, Tryz.ntmps131
  go_wp2_with fail
  go_loopw [4] (fun i w' => ∃ j : Nat, i = .int .i64 j ∧ j ≤ l.length ∧ Hid (WrS w' N R (((l.take j).map QI.nat).foldl stepQ st)) ∧ Hid (WFrame N w w')) (fun i _ => l.length - (intOf i).toNat)
  case atStart => exact ⟨0, rfl, Nat.zero_le _, H, WFrame.refl _ _⟩
  case round =>
    obtain ⟨j, rfl, hj, hW, hG⟩ := hrel
    have hfin := unhide HFine j
    by_cases cj : j < l.length
    · by_cases cf : 65535 < (((l.take j).map QI.nat).foldl stepQ st).1.size
      · have hend : ((l.take j).map QI.nat).foldl stepQ st = res := by
          rw [← unhide HRes, unhide HRest j]
          exact (foldl_full stepQ stepQ_full _ cf _).symm
        have HEnd := hide hend
        have hd : Hid (decide (65535 < (((l.take j).map QI.nat).foldl stepQ st).1.size) = true) := decide_eq_true cf
        have hz := hfin.2
        clear hend cf hfin
        generalize ((l.take j).map QI.nat).foldl stepQ st = s at *
        go_wp2_with fail
        refine (full_st N R s _ (unhide hW) (by omega) true hd).mono ?_
        rintro e w' ⟨rfl, rfl⟩
        go_wp2_with fail
        go_end0
        exact ⟨rfl, by rw [← unhide HEnd]; exact unhide hW, unhide hG⟩
      · have hnx := unhide HAt j cj
        have hq := (unhide HL).2 j cj
        obtain ⟨q1, q2, q3, q4⟩ := queOk_nat hq
        obtain ⟨_, q5, q6⟩ := hq
        unfold wordOk at q5 q6
        obtain ⟨b, o, rfl, hb, x0, x1, x2⟩ := row_q ((unhide HRow).below ((unhide hG).below hN)) j cj
        have hd : Hid (decide (65535 < (((l.take j).map QI.nat).foldl stepQ st).1.size) = false) := decide_eq_false cf
        generalize ((l.take j).map QI.nat).foldl stepQ st = s at *
        have hst : stepQ s l[j].nat = wque s l[j].nat := by unfold stepQ; rw [if_neg cf]
        rw [hst] at hnx
        obtain ⟨s1, hs1⟩ : ∃ s', wname s l[j].nat.name = s' := ⟨_, rfl⟩
        obtain ⟨s2, hs2⟩ : ∃ s', wput s1 (wd l[j].nat.ty) = s' := ⟨_, rfl⟩
        have hwq : wque s l[j].nat = wput s2 (wd l[j].nat.cl) := by unfold wque; rw [hs1, hs2]
        rw [hwq] at hnx
        have f1 := wname_fine hfin.1 l[j].nat.name
        rw [hs1] at f1
        have f2 := wput_fine f1.1 (wd l[j].nat.ty)
        rw [hs2, wd_size] at f2
        have key1 := fun w (h : WrS w N R s) => name_st_w N R s l[j].nat.name w h hfin.1 (by omega) q4
        rw [hs1] at key1
        have key2 := fun w (h : WrS w N R s1) => put_st N R s1 l[j].ty l[j].nat.ty (by show l[j].ty = ((l[j].ty.toNat : Nat) : Int); omega) w h (by omega) (by omega)
        rw [hs2] at key2
        have key3 := fun w (h : WrS w N R s2) => put_st N R s2 l[j].cl l[j].nat.cl (by show l[j].cl = ((l[j].cl.toNat : Nat) : Int); omega) w h (by omega) (by omega)
        have e1 : l[j].nat.name = l[j].name := rfl
        rw [e1] at key1
        have K1 := hide key1
        have K2 := hide key2
        have K3 := hide key3
        have HNx := hide hnx
        have hz := hfin.2
        clear key1 key2 key3 hnx hst hs1 hs2 hwq f1 f2 q1 q2 q3 q4 q5 q6 e1 hfin cf
        obtain ⟨sn, hsn⟩ : ∃ s', wput s2 (wd l[j].nat.cl) = s' := ⟨_, rfl⟩
        rw [hsn] at K3 HNx
        clear hsn
        generalize l[j] = q at *
        obtain ⟨nm, ty, kl⟩ := q
        simp only at *
        go_wp2_with fail
        refine (full_st N R s _ (unhide hW) (by omega) false hd).mono ?_
        rintro e w' ⟨rfl, rfl⟩
        go_wp2_with fail
        refine (unhide K1 _ (unhide hW)).mono ?_
        rintro e w1 ⟨rfl, h1, g1⟩
        have y1 := ((g1.below (Nat.le_trans hN (unhide hG).size)).cell (p := ⟨b, o + j * 3 + 1, none⟩) hb).trans x1
        have y2 := ((g1.below (Nat.le_trans hN (unhide hG).size)).cell (p := ⟨b, o + j * 3 + 2, none⟩) hb).trans x2
        have G1 := hide ((unhide hG).trans g1)
        have H1 := hide h1
        clear h1 g1 x0 x1 x2 hW hG
        go_wp2_with fail
        refine (unhide K2 _ (unhide H1)).mono ?_
        rintro e w2 ⟨rfl, h2, g2⟩
        have x2 := ((g2.below (Nat.le_trans hN (unhide G1).size)).cell (p := ⟨b, o + j * 3 + 2, none⟩) hb).trans y2
        have G2 := hide ((unhide G1).trans g2)
        have H2 := hide h2
        clear h2 g2 y1 y2
        go_wp2_with fail
        refine (unhide K3 _ (unhide H2)).mono ?_
        rintro e w3 ⟨rfl, h3, g3⟩
        have G3 := hide ((unhide G2).trans g3)
        have H3 := hide h3
        clear h3 g3 x2
        go_wp2_with fail
        go_roundw
        case rel => exact ⟨j + 1, by go_num, by omega, by rw [unhide HNx]; exact H3, G3⟩
        case measure => simp [intOf]; omega
    · have hjn : l.take j = l := List.take_of_length_le (by omega)
      rw [hjn, unhide HRes] at hW
      clear hfin hjn
      go_wp2_with fail
      go_end0
      exact ⟨rfl, unhide hW, unhide hG⟩

set_option maxRecDepth 100000 in
set_option maxHeartbeats 2000000 in
theorem records_w (N R : Nat) (st : St) (l : List RI) (part : Nat) (a : Option Addr) (c : Nat) (w : World) (h : WrS w N R st) (hF : Fine st) (hB : st.1.size ≤ 140000) (hl : partOk l part) (hrow : RowAt w N a (rcI l)) (hN : N ≤ w.heap.size) :
    Calls Tryz.prog 132 #[.pointer (some ⟨R, 0, none⟩), .slice a l.length c] w fun e w' => e = .returned (.tuple #[]) ∧ WrS w' N R ((l.map RI.nat).foldl stepR st) ∧ WFrame N w w' := by
  have HF := hide hF
  have HRow := hide hrow
  have HL := hide hl
  have hlen := hl.1
  have H := hide h
  have HAt := hide (fun (i : Nat) (hi : i < l.length) => fold_at stepR RI.nat l st i hi)
  have HRest := hide (fold_rest stepR RI.nat l st)
  have HFine := hide (fun i => foldR_fine hF hB (l.take i) (fun x hx => part_mem hl x (List.mem_of_mem_take hx)))
  clear hF hrow hl h
  obtain ⟨res, hres⟩ : ∃ r, (l.map RI.nat).foldl stepR st = r := ⟨_, rfl⟩
  rw [hres]
  have HRes := hide hres
  clear hres
  go_enter Tryz.func132, Tryz.ntmps132
  go_wp2_with fail
  go_loopw [4] (fun i w' => ∃ j : Nat, i = .int .i64 j ∧ j ≤ l.length ∧ Hid (WrS w' N R (((l.take j).map RI.nat).foldl stepR st)) ∧ Hid (WFrame N w w')) (fun i _ => l.length - (intOf i).toNat)
  case atStart => exact ⟨0, rfl, Nat.zero_le _, H, WFrame.refl _ _⟩
  case round =>
    obtain ⟨j, rfl, hj, hW, hG⟩ := hrel
    have hfin := unhide HFine j
    by_cases cj : j < l.length
    · by_cases cf : 65535 < (((l.take j).map RI.nat).foldl stepR st).1.size
      · have hend : ((l.take j).map RI.nat).foldl stepR st = res := by
          rw [← unhide HRes, unhide HRest j]
          exact (foldl_full stepR stepR_full _ cf _).symm
        have HEnd := hide hend
        have hd : Hid (decide (65535 < (((l.take j).map RI.nat).foldl stepR st).1.size) = true) := decide_eq_true cf
        have hz := hfin.2
        clear hend cf hfin
        generalize ((l.take j).map RI.nat).foldl stepR st = s at *
        go_wp2_with fail
        refine (full_st N R s _ (unhide hW) (by omega) true hd).mono ?_
        rintro e w' ⟨rfl, rfl⟩
        go_wp2_with fail
        go_end0
        exact ⟨rfl, by rw [← unhide HEnd]; exact unhide hW, unhide hG⟩
      · have hnx := unhide HAt j cj
        have hq := ((unhide HL).2 j cj).1
        obtain ⟨b, o, rfl, hb, x0, x1, x2, x3, x4⟩ := row_r ((unhide HRow).below ((unhide hG).below hN)) j cj
        have hd : Hid (decide (65535 < (((l.take j).map RI.nat).foldl stepR st).1.size) = false) := decide_eq_false cf
        generalize ((l.take j).map RI.nat).foldl stepR st = s at *
        have hst : stepR s l[j].nat = wrec s l[j].nat := by unfold stepR; rw [if_neg cf]
        rw [hst] at hnx
        have key1 := fun w (h : WrS w N R s) => record_w N R s l[j] w h hfin.1 (by omega) hq
        unfold rValI at key1
        have K1 := hide key1
        have HNx := hide hnx
        have hz := hfin.2
        clear key1 hnx hst hfin cf hq
        obtain ⟨sn, hsn⟩ : ∃ s', wrec s l[j].nat = s' := ⟨_, rfl⟩
        rw [hsn] at K1 HNx
        clear hsn
        generalize l[j] = q at *
        obtain ⟨nm, ty, kl, ttl, dt⟩ := q
        simp only at *
        go_wp2_with fail
        refine (full_st N R s _ (unhide hW) (by omega) false hd).mono ?_
        rintro e w' ⟨rfl, rfl⟩
        go_wp2_with fail
        refine (unhide K1 _ (unhide hW)).mono ?_
        rintro e w1 ⟨rfl, h1, g1⟩
        have G1 := hide ((unhide hG).trans g1)
        have H1 := hide h1
        clear h1 g1 x0 x1 x2 x3 x4 hW hG
        go_wp2_with fail
        go_roundw
        case rel => exact ⟨j + 1, by go_num, by omega, by rw [unhide HNx]; exact H1, G1⟩
        case measure => simp [intOf]; omega
    · have hjn : l.take j = l := List.take_of_length_le (by omega)
      rw [hjn, unhide HRes] at hW
      clear hfin hjn
      go_wp2_with fail
      go_end0
      exact ⟨rfl, unhide hW, unhide hG⟩

theorem top_fine (m : Msg) : Fine (wtop m) ∧ (wtop m).1.size = 12 := by
  unfold wtop Fine
  simp only [ByteArray.size_append, wd_size]
  exact ⟨⟨Nat.zero_le _, KOk.nil⟩, trivial⟩

set_option maxRecDepth 100000 in
set_option maxHeartbeats 2000000 in
theorem message_w (N R : Nat) (m : MI) (v : Value) (w : World) (h : WrS w N R (⟨#[]⟩, [])) (hm : MsgAt w N v m) (hok : msgOk m) (hN : N ≤ w.heap.size) :
    Calls Tryz.prog 100 #[.pointer (some ⟨R, 0, none⟩), v] w fun e w' => e = .returned (.tuple #[]) ∧ WrS w' N R (writ m.nat) ∧ WFrame N w w' := by
  obtain ⟨a1, c1, a2, c2, a3, c3, a4, c4, rfl, r1, r2, r3, r4, z1, z2, z3, z4, _⟩ := hm
  clear z1 z2 z3 z4
  obtain ⟨o1, o2, o3, o4, o5, o6⟩ := hok
  unfold wordOk at o1 o2
  have l1 := o3.1
  have l2 := o4.1
  have l3 := o5.1
  have l4 := o6.1
  obtain ⟨t1, ht1⟩ : ∃ s, wput (⟨#[]⟩, []) (wd m.nat.id) = s := ⟨_, rfl⟩
  obtain ⟨t2, ht2⟩ : ∃ s, wput t1 (wd m.nat.flags) = s := ⟨_, rfl⟩
  obtain ⟨t3, ht3⟩ : ∃ s, wput t2 (wd m.q.length) = s := ⟨_, rfl⟩
  obtain ⟨t4, ht4⟩ : ∃ s, wput t3 (wd m.a.length) = s := ⟨_, rfl⟩
  obtain ⟨t5, ht5⟩ : ∃ s, wput t4 (wd m.u.length) = s := ⟨_, rfl⟩
  obtain ⟨t6, ht6⟩ : ∃ s, wput t5 (wd m.x.length) = s := ⟨_, rfl⟩
  have htop : wtop m.nat = t6 := by
    rw [← ht6, ← ht5, ← ht4, ← ht3, ← ht2, ← ht1]
    unfold wtop wput MI.nat
    simp only [List.length_map, empty_append]
  have hz1 : t1.1.size = 2 := by rw [← ht1]; rfl
  have hz2 : t2.1.size = 4 := by rw [← ht2]; unfold wput; simp only [ByteArray.size_append, wd_size]; omega
  have hz3 : t3.1.size = 6 := by rw [← ht3]; unfold wput; simp only [ByteArray.size_append, wd_size]; omega
  have hz4 : t4.1.size = 8 := by rw [← ht4]; unfold wput; simp only [ByteArray.size_append, wd_size]; omega
  have hz5 : t5.1.size = 10 := by rw [← ht5]; unfold wput; simp only [ByteArray.size_append, wd_size]; omega
  have f0 := top_fine m.nat
  rw [htop] at f0
  have fq := foldQ_fine f0.1 (by omega) m.q (ques_mem o3)
  obtain ⟨s1, hs1⟩ : ∃ s, (m.q.map QI.nat).foldl stepQ t6 = s := ⟨_, rfl⟩
  rw [hs1] at fq
  have fa := foldR_fine fq.1 fq.2 m.a (part_mem o4)
  obtain ⟨s2, hs2⟩ : ∃ s, (m.a.map RI.nat).foldl stepR s1 = s := ⟨_, rfl⟩
  rw [hs2] at fa
  have fu := foldR_fine fa.1 fa.2 m.u (part_mem o5)
  obtain ⟨s3, hs3⟩ : ∃ s, (m.u.map RI.nat).foldl stepR s2 = s := ⟨_, rfl⟩
  rw [hs3] at fu
  have hres : writ m.nat = (m.x.map RI.nat).foldl stepR s3 := by
    unfold writ
    rw [htop, ← hs3, ← hs2, ← hs1]
    rfl
  rw [hres]
  have key1 := fun w (h : WrS w N R (⟨#[]⟩, [])) => put_st N R (⟨#[]⟩, []) m.id m.nat.id (by show m.id = ((m.id.toNat : Nat) : Int); omega) w h (by show 0 ≤ _; omega) (by show m.id.toNat < _; omega)
  rw [ht1] at key1
  have key2 := fun w (h : WrS w N R t1) => put_st N R t1 m.flags m.nat.flags (by show m.flags = ((m.flags.toNat : Nat) : Int); omega) w h (by omega) (by show m.flags.toNat < _; omega)
  rw [ht2] at key2
  have key3 := fun w (h : WrS w N R t2) => put_st N R t2 ((m.q.length : Nat) : Int) m.q.length rfl w h (by omega) (by omega)
  rw [ht3] at key3
  have key4 := fun w (h : WrS w N R t3) => put_st N R t3 ((m.a.length : Nat) : Int) m.a.length rfl w h (by omega) (by omega)
  rw [ht4] at key4
  have key5 := fun w (h : WrS w N R t4) => put_st N R t4 ((m.u.length : Nat) : Int) m.u.length rfl w h (by omega) (by omega)
  rw [ht5] at key5
  have key6 := fun w (h : WrS w N R t5) => put_st N R t5 ((m.x.length : Nat) : Int) m.x.length rfl w h (by omega) (by omega)
  rw [ht6] at key6
  have key7 := fun W (h : WrS W N R t6) (hb : Below N w W) (hs : N ≤ W.heap.size) => questions_w N R t6 m.q a1 c1 W h f0.1 (by omega) o3 (r1.below hb) hs
  rw [hs1] at key7
  have key8 := fun W (h : WrS W N R s1) (hb : Below N w W) (hs : N ≤ W.heap.size) => records_w N R s1 m.a 0 a2 c2 W h fq.1 fq.2 o4 (r2.below hb) hs
  rw [hs2] at key8
  have key9 := fun W (h : WrS W N R s2) (hb : Below N w W) (hs : N ≤ W.heap.size) => records_w N R s2 m.u 1 a3 c3 W h fa.1 fa.2 o5 (r3.below hb) hs
  rw [hs3] at key9
  have key10 := fun W (h : WrS W N R s3) (hb : Below N w W) (hs : N ≤ W.heap.size) => records_w N R s3 m.x 2 a4 c4 W h fu.1 fu.2 o6 (r4.below hb) hs
  obtain ⟨s4, hs4⟩ : ∃ s, (m.x.map RI.nat).foldl stepR s3 = s := ⟨_, rfl⟩
  rw [hs4] at key10 ⊢
  have K1 := hide key1
  have K2 := hide key2
  have K3 := hide key3
  have K4 := hide key4
  have K5 := hide key5
  have K6 := hide key6
  have K7 := hide key7
  have K8 := hide key8
  have K9 := hide key9
  have K10 := hide key10
  have H := hide h
  clear key1 key2 key3 key4 key5 key6 key7 key8 key9 key10 h htop hres ht1 ht2 ht3 ht4 ht5 ht6 hs1 hs2 hs3 hs4 f0 fq fa fu r1 r2 r3 r4 o3 o4 o5 o6
  obtain ⟨id, fl, q, a, u, x⟩ := m
  simp only at *
  generalize hB0 : (w.alloc (.cells #[.int .i64 id, .int .i64 fl, .slice a1 q.length c1, .slice a2 a.length c2, .slice a3 u.length c3, .slice a4 x.length c4] 32)) = W0
  have hW0 : W0.heap[w.heap.size]? = some (.cells #[.int .i64 id, .int .i64 fl, .slice a1 q.length c1, .slice a2 a.length c2, .slice a3 u.length c3, .slice a4 x.length c4] 32 (0, 0)) := by rw [← hB0]; exact heap_alloc_new _ _
  have hB1 : Below w.heap.size w W0 := by rw [← hB0]; exact (Below.refl _ _).alloc (Nat.le_refl _) _
  have HB0 := hide hB0
  clear hB0
  go_enter Tryz.func100, Tryz.ntmps100
  go_wp2_with fail
  rw [unhide HB0]
  clear HB0
  obtain ⟨⟨b0, b1, b2, b3, b4, b5⟩, y0, y1, y2, y3, y4, y5⟩ := cells6 hW0
  refine (unhide K1 _ ((unhide H).below hB1)).mono ?_
  rintro e w1 ⟨rfl, h1, g1⟩
  have X1 := hide (g1.boxM hW0)
  have G1 := hide ((WFrame.of_below (N := N) hB1).trans g1)
  have H1 := hide h1
  clear h1 g1 hW0 hB1 b0 b1 b2 b3 b4 b5 y0 y1 y2 y3 y4 y5
  obtain ⟨⟨b0, b1, b2, b3, b4, b5⟩, y0, y1, y2, y3, y4, y5⟩ := cells6 (unhide X1)
  go_wp2_with fail
  refine (unhide K2 _ (unhide H1)).mono ?_
  rintro e w2 ⟨rfl, h2, g2⟩
  have X2 := hide (g2.boxM (unhide X1))
  have G2 := hide ((unhide G1).trans g2)
  have H2 := hide h2
  clear h2 g2 b0 b1 b2 b3 b4 b5 y0 y1 y2 y3 y4 y5
  obtain ⟨⟨b0, b1, b2, b3, b4, b5⟩, y0, y1, y2, y3, y4, y5⟩ := cells6 (unhide X2)
  go_wp2_with fail
  refine (unhide K3 _ (unhide H2)).mono ?_
  rintro e w3 ⟨rfl, h3, g3⟩
  have X3 := hide (g3.boxM (unhide X2))
  have G3 := hide ((unhide G2).trans g3)
  have H3 := hide h3
  clear h3 g3 b0 b1 b2 b3 b4 b5 y0 y1 y2 y3 y4 y5
  obtain ⟨⟨b0, b1, b2, b3, b4, b5⟩, y0, y1, y2, y3, y4, y5⟩ := cells6 (unhide X3)
  go_wp2_with fail
  refine (unhide K4 _ (unhide H3)).mono ?_
  rintro e w4 ⟨rfl, h4, g4⟩
  have X4 := hide (g4.boxM (unhide X3))
  have G4 := hide ((unhide G3).trans g4)
  have H4 := hide h4
  clear h4 g4 b0 b1 b2 b3 b4 b5 y0 y1 y2 y3 y4 y5
  obtain ⟨⟨b0, b1, b2, b3, b4, b5⟩, y0, y1, y2, y3, y4, y5⟩ := cells6 (unhide X4)
  go_wp2_with fail
  refine (unhide K5 _ (unhide H4)).mono ?_
  rintro e w5 ⟨rfl, h5, g5⟩
  have X5 := hide (g5.boxM (unhide X4))
  have G5 := hide ((unhide G4).trans g5)
  have H5 := hide h5
  clear h5 g5 b0 b1 b2 b3 b4 b5 y0 y1 y2 y3 y4 y5
  obtain ⟨⟨b0, b1, b2, b3, b4, b5⟩, y0, y1, y2, y3, y4, y5⟩ := cells6 (unhide X5)
  go_wp2_with fail
  refine (unhide K6 _ (unhide H5)).mono ?_
  rintro e w6 ⟨rfl, h6, g6⟩
  have X6 := hide (g6.boxM (unhide X5))
  have G6 := hide ((unhide G5).trans g6)
  have H6 := hide h6
  clear h6 g6 b0 b1 b2 b3 b4 b5 y0 y1 y2 y3 y4 y5
  obtain ⟨⟨b0, b1, b2, b3, b4, b5⟩, y0, y1, y2, y3, y4, y5⟩ := cells6 (unhide X6)
  go_wp2_with fail
  refine (unhide K7 _ (unhide H6) ((unhide G6).below hN) (Nat.le_trans hN (unhide G6).size)).mono ?_
  rintro e w7 ⟨rfl, h7, g7⟩
  have X7 := hide (g7.boxM (unhide X6))
  have G7 := hide ((unhide G6).trans g7)
  have H7 := hide h7
  clear h7 g7 b0 b1 b2 b3 b4 b5 y0 y1 y2 y3 y4 y5
  obtain ⟨⟨b0, b1, b2, b3, b4, b5⟩, y0, y1, y2, y3, y4, y5⟩ := cells6 (unhide X7)
  go_wp2_with fail
  refine (unhide K8 _ (unhide H7) ((unhide G7).below hN) (Nat.le_trans hN (unhide G7).size)).mono ?_
  rintro e w8 ⟨rfl, h8, g8⟩
  have X8 := hide (g8.boxM (unhide X7))
  have G8 := hide ((unhide G7).trans g8)
  have H8 := hide h8
  clear h8 g8 b0 b1 b2 b3 b4 b5 y0 y1 y2 y3 y4 y5
  obtain ⟨⟨b0, b1, b2, b3, b4, b5⟩, y0, y1, y2, y3, y4, y5⟩ := cells6 (unhide X8)
  go_wp2_with fail
  refine (unhide K9 _ (unhide H8) ((unhide G8).below hN) (Nat.le_trans hN (unhide G8).size)).mono ?_
  rintro e w9 ⟨rfl, h9, g9⟩
  have X9 := hide (g9.boxM (unhide X8))
  have G9 := hide ((unhide G8).trans g9)
  have H9 := hide h9
  clear h9 g9 b0 b1 b2 b3 b4 b5 y0 y1 y2 y3 y4 y5
  obtain ⟨⟨b0, b1, b2, b3, b4, b5⟩, y0, y1, y2, y3, y4, y5⟩ := cells6 (unhide X9)
  go_wp2_with fail
  refine (unhide K10 _ (unhide H9) ((unhide G9).below hN) (Nat.le_trans hN (unhide G9).size)).mono ?_
  rintro e wX ⟨rfl, hX, gX⟩
  have GX := hide ((unhide G9).trans gX)
  have HX := hide hX
  clear hX gX b0 b1 b2 b3 b4 b5 y0 y1 y2 y3 y4 y5
  go_wp2_with fail
  go_end0
  exact ⟨rfl, unhide HX, unhide GX⟩

end Go.Proofs.YtdhobdmhnocbgaaGreat

namespace Go.Proofs.YtdhobdmhnocbgaaGreat
open Go.RowKit Zr

theorem wr_new (w : World) (N : Nat) (hN : N ≤ w.heap.size) : WrS (w.alloc (.cells #[.slice none 0 0, .slice none 0 0] 137)) N w.heap.size (⟨#[]⟩, []) :=
  ⟨_, none, 0, _, none, 0, heap_alloc_new _ _, hN, rfl, rfl, World.ownsRow_nil _ _ _ _, World.ownsRow_nil _ _ _ _⟩

theorem MsgAt.mono {w : World} {N M : Nat} {v : Value} {m : MI} (h : MsgAt w N v m) (hb : N ≤ M) : MsgAt w M v m := by
  obtain ⟨a1, c1, a2, c2, a3, c3, a4, c4, e, r1, r2, r3, r4, z⟩ := h
  exact ⟨a1, c1, a2, c2, a3, c3, a4, c4, e, r1.mono hb, r2.mono hb, r3.mono hb, r4.mono hb, z⟩

/-- What Serialize hands back. -/
def SerPost (m : MI) (e : Ending) : Prop := ∃ s x, e = .returned (.tuple #[.string s, .int .i64 x]) ∧ SerIs m s x

set_option maxRecDepth 100000 in
set_option maxHeartbeats 2000000 in
theorem wireSerialize_any (m : MI) (v : Value) (w : World) (hm : MsgAt w w.heap.size v m) :
    Calls Tryz.prog 66 #[v] w fun e w' => SerPost m e ∧ Below w.heap.size w w' := by
  obtain ⟨N, hN⟩ : ∃ N, w.heap.size = N := ⟨_, rfl⟩
  rw [hN] at hm ⊢
  have HM := hide hm
  obtain ⟨a1, c1, a2, c2, a3, c3, a4, c4, rfl, _⟩ := hm
  obtain ⟨v, hv⟩ : ∃ v, Value.agg #[.int .i64 m.id, .int .i64 m.flags, .slice a1 m.q.length c1, .slice a2 m.a.length c2, .slice a3 m.u.length c3, .slice a4 m.x.length c4] = v := ⟨_, rfl⟩
  have HM' : Hid (MsgAt w N v m) := by show MsgAt _ _ _ _; rw [← hv]; exact unhide HM
  clear HM
  generalize hB0 : (w.alloc (.cells #[.int .i64 m.id, .int .i64 m.flags, .slice a1 m.q.length c1, .slice a2 m.a.length c2, .slice a3 m.u.length c3, .slice a4 m.x.length c4] 32)) = W0
  have hW0 : W0.heap[N]? = some (.cells #[.int .i64 m.id, .int .i64 m.flags, .slice a1 m.q.length c1, .slice a2 m.a.length c2, .slice a3 m.u.length c3, .slice a4 m.x.length c4] 32 (0, 0)) := by rw [← hB0, ← hN]; exact heap_alloc_new _ _
  have hB1 : Below N w W0 := by rw [← hB0, ← hN]; exact (Below.refl _ _).alloc (Nat.le_refl _) _
  have hs0 : W0.heap.size = N + 1 := by rw [← hB0]; simp; omega
  have key1 := fun W (hb : Below N w W) (hs : N ≤ W.heap.size) => isMessage_any m v N W ((unhide HM').below hb) hs
  have key2 := fun W (hb : Below N w W) (hs : N ≤ W.heap.size) R (hr : WrS W N R (⟨#[]⟩, [])) (hok : msgOk m) => message_w N R m v W hr ((unhide HM').below hb) hok hs
  have K1 := hide key1
  have K2 := hide key2
  have HB0 := hide hB0
  have hcm : Hid (msgOk m → (writ m.nat).1.size ≤ 140000) := fun hok => by
    obtain ⟨o1, o2, o3, o4, o5, o6⟩ := hok
    have f0 := top_fine m.nat
    have fq := foldQ_fine f0.1 (by omega) m.q (ques_mem o3)
    have fa := foldR_fine fq.1 fq.2 m.a (part_mem o4)
    have fu := foldR_fine fa.1 fa.2 m.u (part_mem o5)
    have fx := foldR_fine fu.1 fu.2 m.x (part_mem o6)
    exact fx.2
  have HV := hide hv
  clear key1 key2 hB0 hv HM'
  have HS : Hid (∀ s x, SerIs m s x ↔ ((¬ msgOk m ∧ s = ⟨#[]⟩ ∧ x = 7) ∨ (msgOk m ∧ 65535 < (writ m.nat).1.size ∧ s = ⟨#[]⟩ ∧ x = 1) ∨ (msgOk m ∧ ¬ 65535 < (writ m.nat).1.size ∧ s = (writ m.nat).1 ∧ x = 0))) := fun s x => Iff.rfl
  unfold SerPost
  generalize SerIs m = S at *
  generalize msgOk m = ok at *
  generalize writ m.nat = st at *
  obtain ⟨id, fl, q, a, u, x⟩ := m
  simp only at *
  go_enter Tryz.func66, Tryz.ntmps66
  obtain ⟨⟨b0, b1, b2, b3, b4, b5⟩, y0, y1, y2, y3, y4, y5⟩ := cells6 hW0
  go_wp2_with fail
  rw [unhide HB0]
  rw [← unhide HV] at K1 K2
  clear HB0 HV
  refine (unhide K1 _ hB1 (by omega)).mono ?_
  rintro e w1 ⟨⟨b, rfl, hb⟩, hb1⟩
  have HOk := hide hb
  have hB2 := hB1.trans (hb1.mono (by omega))
  have X1 := hide ((hb1.block N (by omega)).trans hW0)
  have hsz := hB2.size
  clear hb hW0 b0 b1 b2 b3 b4 b5 y0 y1 y2 y3 y4 y5 K1
  obtain ⟨⟨b0, b1, b2, b3, b4, b5⟩, y0, y1, y2, y3, y4, y5⟩ := cells6 (unhide X1)
  cases b with
  | false =>
    go_wp2_with fail
    go_ret2
    exact ⟨⟨_, _, rfl, (unhide HS _ _).2 (.inl ⟨fun h => absurd ((unhide HOk).2 h) (by simp), rfl, rfl⟩)⟩, hB2⟩
  | true =>
    have hok : ok := (unhide HOk).1 (by simp)
    have hst := unhide hcm hok
    have hlt1 := blk_lt (unhide X1)
    obtain ⟨R, hR⟩ : ∃ R, w1.heap.size = R := ⟨_, rfl⟩
    have p1 : WrS (w1.alloc (.cells #[.slice none 0 0, .slice none 0 0] 137)) N R (⟨#[]⟩, []) := hR ▸ wr_new w1 N (by omega)
    have p2 : Below N w (w1.alloc (.cells #[.slice none 0 0, .slice none 0 0] 137)) := hB2.trans (((Below.refl _ _).alloc (Nat.le_refl _) _).mono (by omega))
    have p3 : N ≤ (w1.alloc (.cells #[.slice none 0 0, .slice none 0 0] 137)).heap.size := by simp; omega
    obtain ⟨⟨n0, n1, n2, n3, n4, n5⟩, m0, m1, m2, m3, m4, m5⟩ := cells6 ((Below.heap_alloc w1 (.cells #[.slice none 0 0, .slice none 0 0] 137) N hlt1).trans (unhide X1))
    have P1 := hide p1
    have P2 := hide p2
    have P3 := hide p3
    clear p1 p2 p3 b0 b1 b2 b3 b4 b5 y0 y1 y2 y3 y4 y5
    go_wp2_with fail
    refine (unhide K2 _ (unhide P2) (unhide P3) R (unhide P1) hok).mono ?_
    rintro e w2 ⟨rfl, h2, g2⟩
    have hB3 := (unhide P2).trans (g2.below (unhide P3))
    have H2 := hide h2
    clear h2 g2 n0 n1 n2 n3 n4 n5 m0 m1 m2 m3 m4 m5
    obtain ⟨B, K⟩ := st
    simp only at *
    by_cases cf : 65535 < B.size
    · have hd : Hid (decide (65535 < B.size) = true) := decide_eq_true cf
      go_wp2_with fail
      refine (full_st N R (B, K) _ (unhide H2) (by show B.size ≤ _; omega) true hd).mono ?_
      rintro e w' ⟨rfl, rfl⟩
      go_wp2_with fail
      go_ret2
      exact ⟨⟨_, _, rfl, (unhide HS _ _).2 (.inr (.inl ⟨hok, cf, rfl, rfl⟩))⟩, hB3⟩
    · have hd : Hid (decide (65535 < B.size) = false) := decide_eq_false cf
      go_wp2_with fail
      refine (full_st N R (B, K) _ (unhide H2) (by show B.size ≤ _; omega) false hd).mono ?_
      rintro e w' ⟨rfl, rfl⟩
      obtain ⟨vb, ab, cb, vk, ak, ck, hR, hN, rfl, rfl, o1, o2⟩ := unhide H2
      obtain ⟨d0, d1, z0, z1⟩ := wr_cells hR
      have O1 := hide o1
      clear hR o1 o2
      simp only at *
      go_wp2_with fail
      rw [run_bytes_row _ 96 9 5 Tryz.underlying96 Tryz.underlying5 Tryz.underlying9 N _ B (unhide O1)]
      go_wp2_with fail
      go_ret2
      exact ⟨⟨_, _, rfl, (unhide HS _ _).2 (.inr (.inr ⟨hok, cf, rfl, rfl⟩))⟩, hB3⟩

end Go.Proofs.YtdhobdmhnocbgaaGreat

namespace Go.Proofs.YtdhobdmhnocbgaaGreat
open Zr

/-- What is known stays known while data are written; the two bytes of their length are open. -/
theorem sd_inv (B : ByteArray) (K : List (ByteArray × Nat)) (d : ByteArray) (hI : Inv (fun _ => False) B K) (z : ByteArray) : ∀ j, (∀ i, i < j → ∃ x, nameAt d (sdTo K d (B ++ z).size i).2.2 = .ok (x, x.size)) →
    Inv (fun i => B.size ≤ i ∧ i < B.size + z.size) (B ++ z ++ (sdTo K d (B ++ z).size j).1) (sdTo K d (B ++ z).size j).2.1 := by
  intro j
  induction j with
  | zero =>
    intro _
    have h1 := hI.open z
    have e : B ++ z ++ (⟨#[]⟩ : ByteArray) = B ++ z := by apply ByteArray.ext; simp [ByteArray.data_append]
    show Inv _ (B ++ z ++ (⟨#[]⟩ : ByteArray)) K
    rw [e]
    exact h1
  | succ j ih =>
    intro h
    obtain ⟨x, hx⟩ := h j (by omega)
    have h1 := ih (fun i hi => h i (by omega))
    rw [sd_next K d _ j x x.size hx]
    have hw := name_whole d _ x _ hx
    obtain ⟨t1, t2⟩ := tl_ok hw
    have h2 := (short_read _ _ _ x (fun i hi => by rw [ByteArray.size_append, ByteArray.size_append]; omega) h1 t2 t1).1
    have e : (B ++ z ++ (sdTo K d (B ++ z).size j).1).size = (B ++ z).size + (sdTo K d (B ++ z).size j).1.size := ByteArray.size_append
    rw [append_assoc', e] at h2
    exact h2

theorem bt_mid (B z y S : ByteArray) (hz : z.size = y.size) (i : Nat) (h : ¬ (B.size ≤ i ∧ i < B.size + z.size)) : bt (B ++ y ++ S) i = bt (B ++ z ++ S) i := by
  by_cases c : i < B.size
  · rw [bt_append, if_pos (by rw [ByteArray.size_append]; omega), bt_append, if_pos c, bt_append, if_pos (by rw [ByteArray.size_append]; omega), bt_append, if_pos c]
  · rw [bt_append, if_neg (by rw [ByteArray.size_append]; omega), bt_append, if_neg (by rw [ByteArray.size_append]; omega), ByteArray.size_append, ByteArray.size_append, hz]

theorem data_inv (B : ByteArray) (K : List (ByteArray × Nat)) (d : ByteArray) (t : Nat) (hI : Inv (fun _ => False) B K) (hd : wellD t d) (z y : ByteArray) (hz : z.size = y.size) :
    Inv (fun _ => False) (B ++ y ++ (sdata K d t (B ++ z).size).1) (sdata K d t (B ++ z).size).2 := by
  have h1 := sd_inv B K d hI z (namesOf t) (wellD_flatNames K d t _ hd)
  have h2 := h1.append (d.extract (sdTo K d (B ++ z).size (namesOf t)).2.2 d.size)
  rw [append_assoc'] at h2
  refine h2.shut ?_ (fun i _ hq => ?_)
  · show (B ++ z ++ (sdata K d t (B ++ z).size).1).size = (B ++ y ++ (sdata K d t (B ++ z).size).1).size
    generalize (sdata K d t (B ++ z).size).1 = A
    simp only [ByteArray.size_append]
    omega
  · exact bt_mid B z y _ hz i hq

/-- What is known is read where it is known. -/
def Known (st : St) : Prop := Inv (fun _ => False) st.1 st.2

theorem wname_known {st : St} (h : Known st) {s : ByteArray} (hs : wholeB s = true) : Known (wname st s) := by
  obtain ⟨t1, t2⟩ := tl_ok hs
  exact (short_read _ _ _ s (fun i hi => hi.elim) h t2 t1).1
theorem wput_known {st : St} (h : Known st) (s : ByteArray) : Known (wput st s) := Inv.append h s
theorem wque_known {st : St} (h : Known st) {q : QI} (hq : queOk q) : Known (wque st q.nat) :=
  wput_known (wput_known (wname_known h hq.1) _) _
theorem whead_known {st : St} (h : Known st) {x : RI} (hx : recOk x) : Known (whead st x.nat) :=
  wput_known (wput_known (wput_known (wput_known (wname_known h hx.1) _) _) _) _
theorem wrec_known {st : St} (h : Known st) {x : RI} (hx : recOk x) : Known (wrec st x.nat) := by
  have h1 := whead_known h hx
  obtain ⟨_, _, _, _, _, _, n7⟩ := recOk_nat hx
  have h2 := data_inv (whead st x.nat).1 (whead st x.nat).2 x.nat.data x.nat.ty h1 n7 (wd 0) (wd (sdata (whead st x.nat).2 x.nat.data x.nat.ty ((whead st x.nat).1.size + 2)).1.size) rfl
  have e : ((whead st x.nat).1 ++ wd 0).size = (whead st x.nat).1.size + 2 := by rw [ByteArray.size_append, wd_size]
  rw [e] at h2
  exact h2
theorem stepR_known {st : St} (h : Known st) {x : RI} (hx : recOk x) : Known (stepR st x.nat) := by
  unfold stepR
  split
  · exact h
  · exact wrec_known h hx
theorem stepQ_known {st : St} (h : Known st) {x : QI} (hx : queOk x) : Known (stepQ st x.nat) := by
  unfold stepQ
  split
  · exact h
  · exact wque_known h hx
theorem foldR_known {st : St} (h : Known st) : ∀ (l : List RI), (∀ x, x ∈ l → recOk x) → Known ((l.map RI.nat).foldl stepR st) := by
  intro l
  induction l generalizing st with
  | nil => intro _; exact h
  | cons x l ih => intro hl; exact ih (stepR_known h (hl x (by simp))) (fun y hy => hl y (List.mem_cons_of_mem _ hy))
theorem foldQ_known {st : St} (h : Known st) : ∀ (l : List QI), (∀ x, x ∈ l → queOk x) → Known ((l.map QI.nat).foldl stepQ st) := by
  intro l
  induction l generalizing st with
  | nil => intro _; exact h
  | cons x l ih => intro hl; exact ih (stepQ_known h (hl x (by simp))) (fun y hy => hl y (List.mem_cons_of_mem _ hy))

end Go.Proofs.YtdhobdmhnocbgaaGreat

namespace Go.Proofs.YtdhobdmhnocbgaaGreat
open Zr

/-- B stands at the front of B'. -/
def Pre (B B' : ByteArray) : Prop := B.size ≤ B'.size ∧ ∀ i, i < B.size → bt B' i = bt B i

theorem Pre.refl (B : ByteArray) : Pre B B := ⟨Nat.le_refl _, fun _ _ => rfl⟩
theorem Pre.trans {A B C : ByteArray} (h : Pre A B) (k : Pre B C) : Pre A C :=
  ⟨by have := h.1; have := k.1; omega, fun i hi => by rw [k.2 i (by have := h.1; omega), h.2 i hi]⟩
theorem pre_append (A s : ByteArray) : Pre A (A ++ s) :=
  ⟨by rw [ByteArray.size_append]; omega, fun i hi => by rw [bt_append, if_pos hi]⟩
theorem Pre.left {A s C : ByteArray} (h : Pre (A ++ s) C) : Pre A C := (pre_append A s).trans h
theorem Pre.at {A s C : ByteArray} (h : Pre (A ++ s) C) (j : Nat) (hj : j < s.size) : bt C (A.size + j) = bt s j := by
  rw [h.2 _ (by rw [ByteArray.size_append]; omega), bt_append, if_neg (by omega)]
  congr 1; omega
theorem Pre.cut {A s C : ByteArray} (h : Pre (A ++ s) C) : C.extract A.size (A.size + s.size) = s := by
  have h1 := h.1
  rw [ByteArray.size_append] at h1
  apply bt_ext
  · rw [ByteArray.size_extract]; omega
  · intro i hi
    have hi' : i < s.size := by rw [ByteArray.size_extract] at hi; omega
    rw [bt_ex _ _ _ i (by omega) (by omega), h.at i hi']

theorem Pre.word {A C : ByteArray} {n : Nat} (h : Pre (A ++ wd n) C) (hn : n < 65536) : num C A.size 2 = n := by
  have h0 := h.at 0 (by rw [wd_size]; omega)
  have h1 := h.at 1 (by rw [wd_size]; omega)
  rw [wd_0 n hn] at h0
  rw [wd_1] at h1
  simp only [num]
  rw [h0, h1]
  omega

theorem wname_size (st : St) (s : ByteArray) : (wname st s).1.size = st.1.size + (short st.2 s st.1.size).1.size := ByteArray.size_append
theorem wput_size (st : St) (s : ByteArray) : (wput st s).1.size = st.1.size + s.size := ByteArray.size_append

/-- How many bytes records take with all names whole. -/
def whlR (l : List RI) : Nat := l.foldl (fun n x => n + x.name.size + 10 + x.data.size) 0
def whlQ (l : List QI) : Nat := l.foldl (fun n x => n + x.name.size + 4) 12
def whl (m : MI) : Nat := whlQ m.q + whlR m.a + whlR m.u + whlR m.x

theorem foldR_add (l : List RI) : ∀ k, l.foldl (fun n x => n + x.name.size + 10 + x.data.size) k = k + whlR l := by
  unfold whlR
  induction l with
  | nil => intro k; rfl
  | cons x l ih =>
    intro k
    rw [List.foldl_cons, List.foldl_cons, ih, ih (0 + x.name.size + 10 + x.data.size)]
    omega

theorem stepQ_le (st : St) {q : QI} (hq : queOk q) : (stepQ st q.nat).1.size ≤ st.1.size + q.name.size + 4 := by
  unfold stepQ
  split
  · omega
  · show (wput (wput (wname st q.nat.name) (wd q.nat.ty)) (wd q.nat.cl)).1.size ≤ _
    have := short_le st.2 q.nat.name st.1.size hq.1
    rw [wput_size, wput_size, wd_size, wd_size, wname_size]
    show _ ≤ st.1.size + q.nat.name.size + 4
    omega

theorem stepR_le (st : St) {x : RI} (hx : recOk x) : (stepR st x.nat).1.size ≤ st.1.size + x.name.size + 10 + x.data.size := by
  unfold stepR
  split
  · omega
  · obtain ⟨_, n2, n3, n4, n5, n6, n7⟩ := recOk_nat hx
    have h1 := short_le st.2 x.nat.name st.1.size n6
    have h2 := sdata_le (whead st x.nat).2 x.nat.data x.nat.ty ((whead st x.nat).1.size + 2) n7
    show ((whead st x.nat).1 ++ wd (sdata (whead st x.nat).2 x.nat.data x.nat.ty ((whead st x.nat).1.size + 2)).1.size ++ (sdata (whead st x.nat).2 x.nat.data x.nat.ty ((whead st x.nat).1.size + 2)).1).size ≤ _
    generalize (sdata (whead st x.nat).2 x.nat.data x.nat.ty ((whead st x.nat).1.size + 2)).1 = S at *
    have eh : (whead st x.nat).1.size = st.1.size + (short st.2 x.nat.name st.1.size).1.size + 8 := by
      show (wput (wput (wput (wput (wname st x.nat.name) (wd x.nat.ty)) (wd x.nat.cl)) (wd (x.nat.ttl / 65536))) (wd (x.nat.ttl % 65536))).1.size = _
      simp only [wput_size, wd_size, wname_size]
    rw [ByteArray.size_append, ByteArray.size_append, wd_size, eh]
    show _ ≤ st.1.size + x.nat.name.size + 10 + x.nat.data.size
    omega

theorem foldR_le (l : List RI) : ∀ (st : St), (∀ x, x ∈ l → recOk x) → ((l.map RI.nat).foldl stepR st).1.size ≤ st.1.size + whlR l := by
  induction l with
  | nil => intro st _; exact Nat.le_refl _
  | cons x l ih =>
    intro st h
    have h1 := ih (stepR st x.nat) (fun y hy => h y (List.mem_cons_of_mem _ hy))
    have h2 := stepR_le st (h x (by simp))
    have h3 := foldR_add l (0 + x.name.size + 10 + x.data.size)
    have h4 : whlR (x :: l) = l.foldl (fun n x => n + x.name.size + 10 + x.data.size) (0 + x.name.size + 10 + x.data.size) := rfl
    show ((l.map RI.nat).foldl stepR (stepR st x.nat)).1.size ≤ _
    omega

theorem foldQ_size (l : List QI) : ∀ (st : St) (k : Nat), st.1.size ≤ k → (∀ x, x ∈ l → queOk x) → ((l.map QI.nat).foldl stepQ st).1.size ≤ l.foldl (fun n x => n + x.name.size + 4) k := by
  induction l with
  | nil => intro st k h _; exact h
  | cons x l ih =>
    intro st k hk h
    have h2 := stepQ_le st (h x (by simp))
    exact ih (stepQ st x.nat) (k + x.name.size + 4) (by omega) (fun y hy => h y (List.mem_cons_of_mem _ hy))

theorem writ_le (m : MI) (hm : msgOk m) : (writ m.nat).1.size ≤ whl m := by
  obtain ⟨m1, m2, mq, ma, mu, mx⟩ := hm
  have h1 := foldQ_size m.q (wtop m.nat) 12 (by show (wd _ ++ wd _ ++ wd _ ++ wd _ ++ wd _ ++ wd _).size ≤ 12; simp only [ByteArray.size_append, wd_size]; omega) (ques_mem mq)
  have h2 := foldR_le m.a ((m.q.map QI.nat).foldl stepQ (wtop m.nat)) (part_mem ma)
  have h3 := foldR_le m.u ((m.a.map RI.nat).foldl stepR ((m.q.map QI.nat).foldl stepQ (wtop m.nat))) (part_mem mu)
  have h4 := foldR_le m.x ((m.u.map RI.nat).foldl stepR ((m.a.map RI.nat).foldl stepR ((m.q.map QI.nat).foldl stepQ (wtop m.nat)))) (part_mem mx)
  show ((m.x.map RI.nat).foldl stepR ((m.u.map RI.nat).foldl stepR ((m.a.map RI.nat).foldl stepR ((m.q.map QI.nat).foldl stepQ (wtop m.nat))))).1.size ≤ whlQ m.q + whlR m.a + whlR m.u + whlR m.x
  unfold whlQ
  omega

end Go.Proofs.YtdhobdmhnocbgaaGreat

namespace Go.Proofs.YtdhobdmhnocbgaaGreat
open Go.RowKit Zr

/-- No list is longer than a count can tell. -/
def Short (m : MI) : Prop := m.q.length ≤ 65535 ∧ m.a.length ≤ 65535 ∧ m.u.length ≤ 65535 ∧ m.x.length ≤ 65535

theorem MsgAt.sizes {m : MI} (h : msgOk m) : (∀ i (h : i < m.q.length), m.q[i].name.size ≤ 255) ∧ (∀ l, l = m.a ∨ l = m.u ∨ l = m.x → ∀ i (h : i < l.length), l[i].name.size ≤ 255 ∧ l[i].data.size ≤ 65535) := by
  obtain ⟨_, _, mq, ma, mu, mx⟩ := h
  refine ⟨fun i hi => ?_, ?_⟩
  · exact (queOk_nat (mq.2 i hi)).1
  · rintro l (rfl | rfl | rfl) i hi
    · have := recOk_nat (ma.2 i hi).1; exact ⟨this.1, this.2.1⟩
    · have := recOk_nat (mu.2 i hi).1; exact ⟨this.1, this.2.1⟩
    · have := recOk_nat (mx.2 i hi).1; exact ⟨this.1, this.2.1⟩

end Go.Proofs.YtdhobdmhnocbgaaGreat
