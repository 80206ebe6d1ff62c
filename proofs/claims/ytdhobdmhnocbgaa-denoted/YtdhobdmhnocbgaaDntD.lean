/-
  Walks over zonekeep: the bytes that spell a message.
-/
import Derived.Test.YtdhobdmhnocbgaaDntC
namespace Go.Proofs.Ytdhobdmhnocbgaa
open Go.RowKit Zr

theorem blk_alloc {w : World} {k : Nat} {o : Obj} (h : w.heap[k]? = some o) (O : Obj) : (w.alloc O).heap[k]? = some o :=
  (((Below.refl w.heap.size w).alloc (Nat.le_refl _) O).block k (blk_lt h)).trans h

set_option maxRecDepth 100000 in
set_option maxHeartbeats 1000000 in
theorem spells_any (b : ByteArray) (m : Msg) (v : Value) (N : Nat) (w : World) (h : parseP b = .ok m) (hm : MsgAt w N v m.int) (hN : N ≤ w.heap.size) :
    Calls Try.prog 21 #[.string b, v] w fun e w' => e = .returned (.bool true) ∧ Below w.heap.size w w' := by
  obtain ⟨hb, h12, i1, i2, l1, l2, l3, l4, p1, p2, p3, r1, r2, r3, r4⟩ := parse_open b m h
  obtain ⟨a1, c1, a2, c2, a3, c3, a4, c4, rfl, o1, o2, o3, o4, _⟩ := hm
  have z1 := num_lt2 b 4
  have z2 := num_lt2 b 6
  have z3 := num_lt2 b 8
  have z4 := num_lt2 b 10
  obtain ⟨r, hr⟩ : ∃ r : Int → Nat, ∀ v, r v = num b v.toNat 2 := ⟨_, fun _ => rfl⟩
  have tt : ∀ W (v : Int), 0 ≤ v → v ≤ 10 → Calls Try.prog 56 #[.string b, .int .i64 v] W fun e w' => e = .returned (.int .i64 (r v : Nat)) ∧ ∃ n, w' = W.drewN n := fun W v h1 h2 => by
    rw [hr]
    exact two_any b v.toNat v W hb (by omega) (by omega)
  have e0 : r 0 = m.id := by rw [hr, i1]; rfl
  have e1 : r 2 = m.flags := by rw [hr, i2]; rfl
  have e2 : r 4 = m.q.length := by rw [hr, ← l1]; rfl
  have e3 : r 6 = m.a.length := by rw [hr, ← l2]; rfl
  have e4 : r 8 = m.u.length := by rw [hr, ← l3]; rfl
  have e5 : r 10 = m.x.length := by rw [hr, ← l4]; rfl
  clear hr
  rw [l1] at z1
  rw [l2] at z2
  rw [l3] at z3
  rw [l4] at z4
  clear i1 i2 l1 l2 l3 l4 h
  obtain ⟨id, fl, q, a, u, x⟩ := m
  simp only [Msg.int, List.length_map] at *
  have hp1 := qs_place b 12 h12 _ _ _ r1
  have hp2 := rc_place b 0 p1 hp1 _ _ _ r2
  have hp3 := rc_place b 1 p2 hp2 _ _ _ r3
  have hnext := qs_next b 12 q.length q p1 r1
  have s2 := fun W (hb' : Below w.heap.size w W) => recorded_any b a 0 p1 p2 a.length a2 c2 N p1 W hb rfl hp1 r2 (o2.below (hb'.mono hN)) (by have := hb'.size; omega) (by omega)
  have s3 := fun W (hb' : Below w.heap.size w W) => recorded_any b u 1 p2 p3 u.length a3 c3 N p2 W hb rfl hp2 r3 (o3.below (hb'.mono hN)) (by have := hb'.size; omega) (by omega)
  have s4 := fun W (hb' : Below w.heap.size w W) => recorded_any b x 2 p3 b.size x.length a4 c4 N p3 W hb rfl hp3 r4 (o4.below (hb'.mono hN)) (by have := hb'.size; omega) (by omega)
  have row1 := fun W (hb' : Below w.heap.size w W) => o1.below (hb'.mono hN)
  have TT := hide tt
  have S2 := hide s2
  have S3 := hide s3
  have S4 := hide s4
  have Row1 := hide row1
  have HN := hide hnext
  have R1 := hide r1
  clear tt s2 s3 s4 row1 hnext r1 r2 r3 r4 o1 o2 o3 o4
  obtain ⟨M, hM⟩ : ∃ M, w.heap.size = M := ⟨_, rfl⟩
  obtain ⟨O, hO⟩ : ∃ O, O = Obj.cells #[.int .i64 id, .int .i64 fl, .slice a1 q.length c1, .slice a2 a.length c2, .slice a3 u.length c3, .slice a4 x.length c4] 25 := ⟨_, rfl⟩
  have hB0 : Below M w (w.alloc O) := (Below.refl _ _).alloc (by omega) _
  have hX := heap_alloc_new w O
  rw [hM] at hX S2 S3 S4 Row1 ⊢
  rw [hO] at hB0 hX
  clear hO O
  have HX := hide hX
  have HB := hide hB0
  clear hX hB0
  have g0 : ((id : Int) != (id : Int)) = false := by simp
  have g1 : ((fl : Int) != (fl : Int)) = false := by simp
  have g2 : ((q.length : Int) != (q.length : Int)) = false := by simp
  have g3 : ((a.length : Int) != (a.length : Int)) = false := by simp
  have g4 : ((u.length : Int) != (u.length : Int)) = false := by simp
  have g5 : ((x.length : Int) != (x.length : Int)) = false := by simp
  go_enter Try.func21, Try.ntmps21
  go_wp2_with fail
  go_quiet ((go_at_call 56; exact Calls.quiet_of (unhide TT _ _ (by decide) (by decide))))
  go_wp2_with fail
  clear e0 e1 e2 e3 e4 e5 g0 g1 g2 g3 g4 g5
  go_loopw [5, 6] (fun va vi w' => ∃ (j p : Nat), j ≤ q.length ∧ p ≤ b.size ∧ va = .int .i64 p ∧ vi = .int .i64 j ∧ Hid (qsTo b 12 j = .ok (q.take j, p)) ∧ Hid (w'.heap[M]? = some (.cells #[.int .i64 id, .int .i64 fl, .slice a1 q.length c1, .slice a2 a.length c2, .slice a3 u.length c3, .slice a4 x.length c4] 25)) ∧ Hid (Below M w w')) (fun _ vi _ => q.length - (intOf vi).toNat)
  case atStart => exact ⟨0, 12, Nat.zero_le _, h12, rfl, rfl, hide rfl, HX, hide (below_drewK (unhide HB) _)⟩
  case round =>
    clear HX HB
    obtain ⟨j, p, hj, hp, rfl, rfl, HJ, HX, HB⟩ := hrel
    by_cases cj : j < q.length
    · obtain ⟨p', p'', g1, g2, g3⟩ := unhide HN j cj
      rw [unhide HJ] at g1
      simp only [Except.ok.injEq, Prod.mk.injEq, true_and] at g1
      subst g1
      obtain ⟨n, q1, q2, q3, q4, q5⟩ := que_open b p q[j] p'' g2
      have hr := row_q (unhide Row1 _ (unhide HB)) j (by simpa using cj)
      have ej : (q.map Qs.int)[j]'(by simpa using cj) = q[j].int := by simp
      rw [ej] at hr
      obtain ⟨bb, o, rfl, hbb, x0, x1, x2⟩ := hr
      have y0 : q[j].int.name = q[j].name := rfl
      have y1 : q[j].int.ty = ((q[j].ty : Nat) : Int) := rfl
      have y2 : q[j].int.cl = ((q[j].cl : Nat) : Int) := rfl
      rw [y0] at x0
      rw [y1] at x1
      rw [y2] at x2
      have k0 := fun W => spelled_any b q[j].name p n p W hb rfl q1
      obtain ⟨rr, hrr⟩ : ∃ rr : Int → Nat, ∀ v, rr v = num b v.toNat 2 := ⟨_, fun _ => rfl⟩
      have k1 : ∀ W (v : Int), 0 ≤ v → v + 2 ≤ b.size → Calls Try.prog 56 #[.string b, .int .i64 v] W fun e w' => e = .returned (.int .i64 (rr v : Nat)) ∧ ∃ n, w' = W.drewN n := fun W v h1 h2 => by
        rw [hrr]
        exact two_any b v.toNat v W hb (by omega) (by omega)
      have e1 : rr ((p : Int) + (n : Int)) = q[j].ty := by rw [hrr, q4]; congr 1
      have e2 : rr ((p : Int) + (n : Int) + 2) = q[j].cl := by rw [hrr, q5]; congr 1
      have hlt := cell_ltK x0
      have K0 := hide k0
      have K1 := hide k1
      have G3 := hide g3
      clear k0 k1 g3 g2 q1 q4 q5 y0 y1 y2 ej hrr HN
      generalize q[j].name = nm at *
      generalize q[j].ty = ty at *
      generalize q[j].cl = cl at *
      have hA := (unhide HB).alloc (by have := (unhide HB).size; omega) (.cells #[.string nm, .int .i64 ty, .int .i64 cl] 74)
      have hX2 := blk_alloc (unhide HX) (.cells #[.string nm, .int .i64 ty, .int .i64 cl] 74)
      obtain ⟨⟨b0, b1, b2, b3, b4, b5⟩, _⟩ := cells6 (unhide HX)
      have HA := hide hA
      have HX2 := hide hX2
      clear hA hX2 HB HX
      go_wp2_with fail
      refine (unhide K0 _).mono ?_
      rintro e w1 ⟨rfl, m0, rfl⟩
      have g0 : decide ((n : Int) < 0) = false := by simp
      have g1 : ((ty : Int) != (ty : Int)) = false := by simp
      have g2 : ((cl : Int) != (cl : Int)) = false := by simp
      go_wp2_with fail
      go_quiet ((go_at_call 56; exact quiet_more (unhide K1 _ _ (by omega) (by omega))))
      go_wp2_with fail
      exact ⟨⟨j + 1, p'', by omega, by omega, by go_num, by go_num, G3, HX2, hide (below_drewK (unhide HA) _)⟩, by simp [intOf]; omega⟩
    · have ej : j = q.length := by omega
      subst ej
      have e1 := unhide HJ
      rw [List.take_length, unhide R1] at e1
      simp only [Except.ok.injEq, Prod.mk.injEq, true_and] at e1
      subst e1
      obtain ⟨⟨b0, b1, b2, b3, b4, b5⟩, _⟩ := cells6 (unhide HX)
      go_wp2_with fail
      refine (unhide S2 _ (unhide HB)).mono ?_
      rintro e w2 ⟨rfl, hb2⟩
      have HX2 := hide ((hb2.block M (blk_lt (unhide HX))).trans (unhide HX))
      have HB2 := hide ((unhide HB).trans (hb2.mono (by have := (unhide HB).size; omega)))
      clear b0 b1 b2 b3 b4 b5 HX HB hb2
      obtain ⟨⟨b0, b1, b2, b3, b4, b5⟩, _⟩ := cells6 (unhide HX2)
      go_wp2_with fail
      refine (unhide S3 _ (unhide HB2)).mono ?_
      rintro e w3 ⟨rfl, hb3⟩
      have HX3 := hide ((hb3.block M (blk_lt (unhide HX2))).trans (unhide HX2))
      have HB3 := hide ((unhide HB2).trans (hb3.mono (by have := (unhide HB2).size; omega)))
      clear b0 b1 b2 b3 b4 b5 HX2 HB2 hb3
      obtain ⟨⟨b0, b1, b2, b3, b4, b5⟩, _⟩ := cells6 (unhide HX3)
      go_wp2_with fail
      refine (unhide S4 _ (unhide HB3)).mono ?_
      rintro e w4 ⟨rfl, hb4⟩
      have HB4 := hide ((unhide HB3).trans (hb4.mono (by have := (unhide HB3).size; omega)))
      clear b0 b1 b2 b3 b4 b5 HX3 HB3 hb4
      have g1 : ((b.size : Int) == (b.size : Int)) = true := by simp
      go_wp2_with fail
      go_ret
      exact ⟨rfl, unhide HB4⟩

end Go.Proofs.Ytdhobdmhnocbgaa
