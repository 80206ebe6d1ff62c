/-
  Walks: the writer's records, questions, lists of them.
-/
import Derived.Test.YtdhobdmhnocbgaaQSerW
namespace Go.Proofs.Ytdhobdmhnocbgaa
open Go.RowKit Zr

theorem WFrame.box {N k : Nat} {w a : World} {cs : Array Value} (h : WFrame N w a) (hr : w.heap[k]? = some (.cells cs 86 (0, 0))) : a.heap[k]? = some (.cells cs 86 (0, 0)) :=
  h.kind k _ _ _ hr (by decide) (by decide) (by decide)
theorem WFrame.boxM {N k : Nat} {w a : World} {cs : Array Value} (h : WFrame N w a) (hr : w.heap[k]? = some (.cells cs 25 (0, 0))) : a.heap[k]? = some (.cells cs 25 (0, 0)) :=
  h.kind k _ _ _ hr (by decide) (by decide) (by decide)

/-- The same, by a state. -/
def WrS (w : World) (N R : Nat) (st : St) : Prop := Wr w N R st.1 st.2

theorem put_st (N R : Nat) (st : St) (v : Int) (n : Nat) (hv : v = (n : Int)) (w : World) (h : WrS w N R st) (hB : st.1.size ≤ 399998) (hn : n < 65536) :
    Calls Try.prog 121 #[.pointer (some ⟨R, 0, none⟩), .int .i64 v] w fun e w' => e = .returned (.tuple #[]) ∧ WrS w' N R (wput st (wd n)) ∧ WFrame N w w' := by
  subst hv
  exact word_w N R st.1 st.2 n w h hB hn

theorem name_st_w (N R : Nat) (st : St) (s : ByteArray) (w : World) (h : WrS w N R st) (hF : Fine st) (hB : st.1.size ≤ 200000) (hs : wholeB s = true) :
    Calls Try.prog 153 #[.pointer (some ⟨R, 0, none⟩), .string s] w fun e w' => e = .returned (.tuple #[]) ∧ WrS w' N R (wname st s) ∧ WFrame N w w' := by
  have h1 := hF.1
  exact name_w N R st.1 st.2 s w h (by omega) hF.2 (by omega) hs

set_option maxRecDepth 100000 in
set_option maxHeartbeats 2000000 in
theorem record_w (N R : Nat) (st : St) (x : RI) (w : World) (h : WrS w N R st) (hF : Fine st) (hB : st.1.size ≤ 65535) (hx : recOk x) :
    Calls Try.prog 154 #[.pointer (some ⟨R, 0, none⟩), rValI x] w fun e w' => e = .returned (.tuple #[]) ∧ WrS w' N R (wrec st x.nat) ∧ WFrame N w w' := by
  obtain ⟨n1, n2, n3, n4, n5, n6, n7⟩ := recOk_nat hx
  obtain ⟨y1, y2, y3, y4, y5⟩ := hx
  unfold wordOk at y2 y3
  -- the states, one behind the other
  obtain ⟨s1, hs1⟩ : ∃ s, wname st x.nat.name = s := ⟨_, rfl⟩
  obtain ⟨s2, hs2⟩ : ∃ s, wput s1 (wd x.nat.ty) = s := ⟨_, rfl⟩
  obtain ⟨s3, hs3⟩ : ∃ s, wput s2 (wd x.nat.cl) = s := ⟨_, rfl⟩
  obtain ⟨s4, hs4⟩ : ∃ s, wput s3 (wd (x.nat.ttl / 65536)) = s := ⟨_, rfl⟩
  obtain ⟨s5, hs5⟩ : ∃ s, wput s4 (wd (x.nat.ttl % 65536)) = s := ⟨_, rfl⟩
  have hh : whead st x.nat = s5 := by unfold whead; rw [hs1, hs2, hs3, hs4, hs5]
  obtain ⟨dd, hdd⟩ : ∃ d, sdata s5.2 x.nat.data x.nat.ty (s5.1.size + 2) = d := ⟨_, rfl⟩
  have hres : wrec st x.nat = (s5.1 ++ wd dd.1.size ++ dd.1, dd.2) := by unfold wrec; rw [hh, hdd]
  have f1 := wname_fine hF x.nat.name
  rw [hs1] at f1
  have f2 := wput_fine f1.1 (wd x.nat.ty)
  rw [hs2, wd_size] at f2
  have f3 := wput_fine f2.1 (wd x.nat.cl)
  rw [hs3, wd_size] at f3
  have f4 := wput_fine f3.1 (wd (x.nat.ttl / 65536))
  rw [hs4, wd_size] at f4
  have f5 := wput_fine f4.1 (wd (x.nat.ttl % 65536))
  rw [hs5, wd_size] at f5
  have f6 := sdata_bounds s5.2 x.nat.data x.nat.ty (s5.1.size + 2) f5.1.2
  rw [hdd] at f6
  have f5' := f5.1.1
  have key1 := fun w (h : WrS w N R st) => name_st_w N R st x.nat.name w h hF (by omega) n6
  rw [hs1] at key1
  have key2 := fun w (h : WrS w N R s1) => put_st N R s1 x.ty x.nat.ty (by show x.ty = ((x.ty.toNat : Nat) : Int); omega) w h (by omega) (by omega)
  rw [hs2] at key2
  have key3 := fun w (h : WrS w N R s2) => put_st N R s2 x.cl x.nat.cl (by show x.cl = ((x.cl.toNat : Nat) : Int); omega) w h (by omega) (by omega)
  rw [hs3] at key3
  have key4 := fun w => long_at x.ttl x.nat.ttl w (by show x.ttl = ((x.ttl.toNat : Nat) : Int); omega) (by show x.ttl.toNat < _; omega)
  have key5 := fun w (h : WrS w N R s3) => bytes_w N R s3.1 s3.2 (q4 x.nat.ttl) w h (by omega) (by rw [q4_size]; omega)
  have e5 : s3.1 ++ q4 x.nat.ttl = s5.1 ∧ s3.2 = s5.2 := by
    rw [← hs5, ← hs4]
    unfold wput q4
    exact ⟨ByteArray.append_assoc.symm, rfl⟩
  rw [e5.1, e5.2] at key5
  obtain ⟨lf, hlf⟩ : ∃ s, q4 x.nat.ttl = s := ⟨_, rfl⟩
  rw [hlf] at key4 key5
  have key6 := fun w (h : WrS w N R s5) => shortData_w N R s5.1 s5.2 x.nat.data x.nat.ty (s5.1.size + 2) w h (by omega) f5.1.2 (by omega) n7
  rw [hdd] at key6
  have key6' : ∀ w, WrS w N R s5 → ∀ v : Int, v = ((s5.1.size : Nat) : Int) + 2 → Calls Try.prog 178 #[.pointer (some ⟨R, 0, none⟩), .string x.data, .int .i64 x.ty, .int .i64 v] w fun e w' => e = .returned (.string dd.1) ∧ Wr w' N R s5.1 dd.2 ∧ WFrame N w w' := by
    intro w h v hv
    have h1 := key6 w h
    have e1 : ((x.nat.ty : Nat) : Int) = x.ty := by show ((x.ty.toNat : Nat) : Int) = _; omega
    have e2 : ((s5.1.size + 2 : Nat) : Int) = v := by omega
    rw [e1, e2] at h1
    exact h1
  have hd6 := sdata_le s5.2 x.nat.data x.nat.ty (s5.1.size + 2) n7
  rw [hdd] at hd6
  have key7 := fun w (h : Wr w N R s5.1 dd.2) => put_st N R (s5.1, dd.2) ((dd.1.size : Nat) : Int) dd.1.size rfl w h (by show s5.1.size ≤ _; omega) (by omega)
  have key8 := fun w (h : Wr w N R (s5.1 ++ wd dd.1.size) dd.2) => bytes_w N R (s5.1 ++ wd dd.1.size) dd.2 dd.1 w h (by rw [ByteArray.size_append, wd_size]; omega) (by omega)
  have K1 := hide key1
  have K2 := hide key2
  have K3 := hide key3
  have K4 := hide key4
  have K5 := hide key5
  have K6 := hide key6'
  have K7 := hide key7
  have K8 := hide key8
  have HRes := hide hres
  have H := hide h
  have hsz5 : s5.1.size ≤ 65535 + 300 := by omega
  have hdz : dd.1.size ≤ 65535 := by omega
  clear key1 key2 key3 key4 key5 key6 key6' key7 key8 hres h hs1 hs2 hs3 hs4 hs5 hh hdd hlf e5 f1 f2 f3 f4 f5 f5' f6 n6 n7 y1 y5 hd6
  rw [unhide HRes]
  have e1 : x.nat.name = x.name := rfl
  rw [e1] at K1
  unfold rValI
  obtain ⟨nm, ty, kl, ttl, dt⟩ := x
  simp only at *
  obtain ⟨y41, y42⟩ := y4
  generalize hB0 : (w.alloc (.cells #[.string nm, .int .i64 ty, .int .i64 kl, .int .i64 ttl, .string dt] 86)) = W0
  have hW0 : W0.heap[w.heap.size]? = some (.cells #[.string nm, .int .i64 ty, .int .i64 kl, .int .i64 ttl, .string dt] 86 (0, 0)) := by rw [← hB0]; exact heap_alloc_new _ _
  have hB1 : Below w.heap.size w W0 := by rw [← hB0]; exact (Below.refl _ _).alloc (Nat.le_refl _) _
  have HB0 := hide hB0
  clear hB0
  go_enter Try.func154, Try.ntmps154
  go_wp2_with fail
  rw [unhide HB0]
  clear HB0
  refine (unhide K1 _ ((unhide H).below hB1)).mono ?_
  rintro e w1 ⟨rfl, h1, g1⟩
  have X1 := hide (g1.box hW0)
  have G1 := hide ((WFrame.of_below (N := N) hB1).trans g1)
  have H1 := hide h1
  clear h1 g1 hW0 hB1
  obtain ⟨⟨b0, b1, b2, b3, b4⟩, z0, z1, z2, z3, z4⟩ := cells5 (unhide X1)
  go_wp2_with fail
  refine (unhide K2 _ (unhide H1)).mono ?_
  rintro e w2 ⟨rfl, h2, g2⟩
  have X2 := hide (g2.box (unhide X1))
  have G2 := hide ((unhide G1).trans g2)
  have H2 := hide h2
  clear h2 g2 b0 b1 b2 b3 b4 z0 z1 z2 z3 z4
  obtain ⟨⟨b0, b1, b2, b3, b4⟩, z0, z1, z2, z3, z4⟩ := cells5 (unhide X2)
  go_wp2_with fail
  refine (unhide K3 _ (unhide H2)).mono ?_
  rintro e w3 ⟨rfl, h3, g3⟩
  have X3 := hide (g3.box (unhide X2))
  have G3 := hide ((unhide G2).trans g3)
  have H3 := hide h3
  clear h3 g3 b0 b1 b2 b3 b4 z0 z1 z2 z3 z4
  obtain ⟨⟨b0, b1, b2, b3, b4⟩, z0, z1, z2, z3, z4⟩ := cells5 (unhide X3)
  go_wp2_with fail
  refine (unhide K4 _).mono ?_
  rintro e w4 ⟨rfl, g4⟩
  have X4 := hide ((g4.block _ (blk_lt (unhide X3))).trans (unhide X3))
  have G4 := hide ((unhide G3).trans (WFrame.of_below g4))
  have H4 : Hid (WrS w4 N R s3) := hide (Wr.below (unhide H3) g4)
  clear g4 b0 b1 b2 b3 b4 z0 z1 z2 z3 z4
  obtain ⟨⟨b0, b1, b2, b3, b4⟩, z0, z1, z2, z3, z4⟩ := cells5 (unhide X4)
  go_wp2_with fail
  refine (unhide K5 _ (unhide H4)).mono ?_
  rintro e w5 ⟨rfl, h5, g5⟩
  have X5 := hide (g5.box (unhide X4))
  have G5 := hide ((unhide G4).trans g5)
  have H5 := hide h5
  obtain ⟨vb, ab, cb, vk, ak, ck, hR, hN, rfl, rfl, o1, o2⟩ := h5
  obtain ⟨c0, c1, v0, v1⟩ := wr_cells hR
  clear hR o1 o2 g5 b0 b1 b2 b3 b4 z0 z1 z2 z3 z4
  obtain ⟨⟨b0, b1, b2, b3, b4⟩, z0, z1, z2, z3, z4⟩ := cells5 (unhide X5)
  go_wp2_with fail
  refine (unhide K6 _ (unhide H5) _ rfl).mono ?_
  rintro e w6 ⟨rfl, h6, g6⟩
  have G6 := hide ((unhide G5).trans g6)
  have H6 := hide h6
  clear h6 g6 b0 b1 b2 b3 b4 z0 z1 z2 z3 z4 c0 c1 v0 v1
  go_wp2_with fail
  refine (unhide K7 _ (unhide H6)).mono ?_
  rintro e w7 ⟨rfl, h7, g7⟩
  have G7 := hide ((unhide G6).trans g7)
  have H7 := hide h7
  clear h7 g7
  go_wp2_with fail
  refine (unhide K8 _ (unhide H7)).mono ?_
  rintro e w8 ⟨rfl, h8, g8⟩
  have G8 := hide ((unhide G7).trans g8)
  have H8 := hide h8
  clear h8 g8
  go_wp2_with fail
  go_end0
  exact ⟨rfl, unhide H8, unhide G8⟩

end Go.Proofs.Ytdhobdmhnocbgaa
