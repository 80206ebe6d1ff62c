/-
  Walks over the law: what the owner of a message writes behind its lists, and into them.
-/
import Derived.Test.YtdhobdmhnocbgaaLawC
namespace Go.Proofs.Ytdhobdmhnocbgaa
open Go.RowKit Zr

/-- Only blocks from B up to E may have turned. -/
structure GrewIn (w w' : World) (B E : Nat) : Prop where
  os : w'.os = w.os
  output : w'.output = w.output
  size : w.heap.size ≤ w'.heap.size
  block : ∀ k, k < w.heap.size → (k < B ∨ E ≤ k) → w'.heap[k]? = w.heap[k]?

theorem GrewIn.refl (w : World) (B E : Nat) : GrewIn w w B E := ⟨rfl, rfl, Nat.le_refl _, fun _ _ _ => rfl⟩
theorem GrewIn.trans {a b c : World} {B E : Nat} (h : GrewIn a b B E) (k : GrewIn b c B E) : GrewIn a c B E :=
  ⟨k.os.trans h.os, k.output.trans h.output, Nat.le_trans h.size k.size, fun i hi hr => (k.block i (Nat.lt_of_lt_of_le hi h.size) hr).trans (h.block i hi hr)⟩
theorem GrewIn.of_below {w w' : World} {B E : Nat} (h : Below w.heap.size w w') : GrewIn w w' B E := ⟨h.os, h.output, h.size, fun k hk _ => h.block k hk⟩
theorem GrewIn.of_grew {w w' : World} {B E : Nat} {row : Option Nat} (h : Grew w w' row) (hr : ∀ g, row = some g → B ≤ g ∧ g < E) : GrewIn w w' B E :=
  ⟨h.os, h.output, h.size, fun k hk hc => h.block k hk (fun e => by have := hr k e.symm; omega)⟩
theorem GrewIn.blk {w w' : World} {B E k : Nat} {o : Obj} (h : GrewIn w w' B E) (hk : w.heap[k]? = some o) (hc : k < B ∨ E ≤ k) : w'.heap[k]? = some o := (h.block k (blk_lt hk) hc).trans hk
theorem GrewIn.owns {w w' : World} {B E N : Nat} {e : TypeId} {size : Nat} {v : Value} {n : Nat} {xs : List Value} (hg : GrewIn w w' B E) (h : w.ownsRow N e size v n xs) (hne : ∀ g, v.ownBlock = some g → g < B ∨ E ≤ g) : w'.ownsRow N e size v n xs := by
  refine ⟨h.1, ?_⟩
  rcases h.2 with hn | ⟨g, cap, cur, rfl, hb, hgg, rest⟩
  · exact .inl hn
  · exact .inr ⟨g, cap, cur, rfl, hb, hg.blk hgg (hne g rfl), rest⟩

theorem apart_ne {u v : Value} (h : Apart u v) : u.ownBlock = none ∨ u.ownBlock ≠ v.ownBlock := by
  cases hu : u.ownBlock with
  | none => exact .inl rfl
  | some g => exact .inr (fun e => h g hu e.symm)

/-- The rows of a message lie within. -/
theorem in_of {w : World} {N E : Nat} {e : TypeId} {size : Nat} {v : Value} {n : Nat} {xs : List Value} (h : w.ownsRow N e size v n xs) (hu : Under v E) : ∀ g, v.ownBlock = some g → N ≤ g ∧ g < E := fun g hg => ⟨(h.lt g hg).1, hu g hg⟩

set_option maxRecDepth 100000 in
set_option maxHeartbeats 1000000 in
theorem behindAll_any (m : Msg) (v : Value) (B E : Nat) (w : World) (h : MsgIs w B v m) (hu : MsgUnder v E) (hs : Small m) (hE : E ≤ w.heap.size) :
    Calls Try.prog 40 #[v] w fun e w' => e = .returned (.tuple #[]) ∧ MsgIs w' B v m ∧ GrewIn w w' B E := by
  obtain ⟨a1, c1, a2, c2, a3, c3, a4, c4, rfl, o1, o2, o3, o4, p12, p13, p14, p23, p24, p34⟩ := h
  obtain ⟨u1, u2, u3, u4⟩ := hu _ _ _ _ _ _ rfl
  obtain ⟨s1, s2, s3, s4⟩ := hs
  obtain ⟨i0, hi, hz0, hz1, hz2⟩ := info_parts Try.info74
  have Hi := hide hi
  have Hz0 := hide hz0
  have Hz1 := hide hz1
  have Hz2 := hide hz2
  clear hi hz0 hz1 hz2
  obtain ⟨box, hbox⟩ : ∃ o : Obj, o = .cells #[.int .i64 m.id, .int .i64 m.flags, .slice a1 m.q.length c1, .slice a2 m.a.length c2, .slice a3 m.u.length c3, .slice a4 m.x.length c4] 25 (0, 0) := ⟨_, rfl⟩
  obtain ⟨w0, hw0⟩ : ∃ w0, w0 = w.alloc box := ⟨_, rfl⟩
  have hb0 : Below w.heap.size w w0 := by rw [hw0]; exact (Below.refl _ _).alloc (Nat.le_refl _) _
  have hB0 : w0.heap[w.heap.size]? = some box := by rw [hw0]; exact heap_alloc_new _ _
  have q1 := owns_below o1 hb0
  have q2 := owns_below o2 hb0
  have q3 := owns_below o3 hb0
  have q4 := owns_below o4 hb0
  have hC := hide (came_of q1)
  have Q1 := hide q1
  have Q2 := hide q2
  have Q3 := hide q3
  have Q4 := hide q4
  have I1 := hide (in_of o1 u1)
  have I2 := hide (in_of o2 u2)
  have I3 := hide (in_of o3 u3)
  have I4 := hide (in_of o4 u4)
  have P12 := hide p12
  have P13 := hide p13
  have P14 := hide p14
  have P23 := hide p23
  have P24 := hide p24
  have P34 := hide p34
  have HB0 := hide hB0
  have Hb0 := hide hb0
  clear o1 o2 o3 o4 u1 u2 u3 u4 hu p12 p13 p14 p23 p24 p34 q1 q2 q3 q4 hB0 hb0
  go_enter Try.func40, Try.ntmps40
  go_wp2_with fail
  rw [← hbox, ← hw0]
  have HBX := hide hbox
  clear hbox hw0
  generalize hsz : w.heap.size = S at *
  go_loopg [2, 3] 10 (fun g v i w' => ∃ (j : Nat) (ks : List Value) (r : Nat), i = .int .i64 j ∧ j ≤ 9 ∧ g = 10 - j ∧ Hid (Upon w0 74 3 a1 ((a1.map Addr.block).getD 0) 0 m.q.length c1 (qcells m.q) w' v j ks r))
  case atStart => exact ⟨0, [], 0, rfl, by omega, rfl, Upon.start (unhide hC)⟩
  case round =>
    obtain ⟨j, ks, r, rfl, hj, hg, hU⟩ := hrel
    by_cases cj : j < 9
    · go_wp2_with (at_builtin; refine wpList_append_upon _ rfl _ _ 22 22 rfl (unhide hC) i0 (.agg #[.string ⟨#[]⟩, .int .i64 0, .int .i64 0]) 32 Try.underlying22 (unhide Hi) (unhide Hz0) (unhide Hz1) (unhide Hz2) rfl (by rfl) ((unhide hU).alloc (unhide hC) _) (.slice (some ⟨wr.heap.size, 0, none⟩) 1 1) 1 [.string ⟨#[]⟩, .int .i64 77, .int .i64 0] (by rfl) (Src.ofSlice _ Try.underlying22 ⟨wr.heap.size, 0, none⟩ 1 1 _ rfl (cell_three_new _ _ _ _ _ _ rfl) (fun x hx => by simp at hx; rcases hx with rfl | rfl | rfl <;> rfl)) (by unfold maxLen; omega) (by omega) ?_; intro v3 w3 hU3)
      go_roundg (10 - (j + 1))
      case measure => omega
      case rel => exact ⟨j + 1, _, _, by go_num, by omega, rfl, hU3⟩
    · obtain ⟨r1, hG1⟩ := upon_owns (unhide Q1) (unhide hU)
      have hI1 := GrewIn.of_grew hG1 (unhide I1)
      have r2 := hG1.owns (unhide Q2) (apart_ne (unhide P12).symm)
      have r3 := hG1.owns (unhide Q3) (apart_ne (unhide P13).symm)
      have r4 := hG1.owns (unhide Q4) (apart_ne (unhide P14).symm)
      have hB1 := hI1.blk (unhide HB0) (.inr hE)
      rw [unhide HBX] at hB1
      obtain ⟨⟨x0, x1, x2, x3, x4, x5⟩, y0, y1, y2, y3, y4, y5⟩ := cells6 hB1
      have R1 := hide r1
      have R2 := hide r2
      have R3 := hide r3
      have R4 := hide r4
      have HI1 := hide hI1
      have HB1 := hide hB1
      clear r1 r2 r3 r4 hI1 hB1 hG1 hU Q1 Q2 Q3 Q4 hC
      go_wp2_with fail
      refine (behind_any a2 m.a.length c2 B (rcells m.a) _ (unhide R2) s2).mono ?_
      rintro e w2 ⟨rfl, t2, hG2⟩
      have hI2 := GrewIn.of_grew hG2 (unhide I2)
      have t1 := hG2.owns (unhide R1) (apart_ne (unhide P12))
      have t3 := hG2.owns (unhide R3) (apart_ne (unhide P23).symm)
      have t4 := hG2.owns (unhide R4) (apart_ne (unhide P24).symm)
      have hB2 := hI2.blk (unhide HB1) (.inr hE)
      clear x0 x1 x2 x3 x4 x5 y0 y1 y2 y3 y4 y5
      obtain ⟨⟨x0, x1, x2, x3, x4, x5⟩, y0, y1, y2, y3, y4, y5⟩ := cells6 hB2
      have T1 := hide t1
      have T2 := hide t2
      have T3 := hide t3
      have T4 := hide t4
      have HI2 := hide ((unhide HI1).trans hI2)
      have HB2 := hide hB2
      clear t1 t2 t3 t4 hI2 hB2 hG2 R1 R2 R3 R4 HI1 HB1
      go_wp2_with fail
      refine (behind_any a3 m.u.length c3 B (rcells m.u) _ (unhide T3) s3).mono ?_
      rintro e w3 ⟨rfl, t3, hG2⟩
      have hI2 := GrewIn.of_grew hG2 (unhide I3)
      have t1 := hG2.owns (unhide T1) (apart_ne (unhide P13))
      have t2 := hG2.owns (unhide T2) (apart_ne (unhide P23))
      have t4 := hG2.owns (unhide T4) (apart_ne (unhide P34).symm)
      have hB2 := hI2.blk (unhide HB2) (.inr hE)
      clear x0 x1 x2 x3 x4 x5 y0 y1 y2 y3 y4 y5
      obtain ⟨⟨x0, x1, x2, x3, x4, x5⟩, y0, y1, y2, y3, y4, y5⟩ := cells6 hB2
      have V1 := hide t1
      have V2 := hide t2
      have V3 := hide t3
      have V4 := hide t4
      have HI3 := hide ((unhide HI2).trans hI2)
      clear t1 t2 t3 t4 hI2 hB2 hG2 T1 T2 T3 T4 HI2 HB2
      go_wp2_with fail
      refine (behind_any a4 m.x.length c4 B (rcells m.x) _ (unhide V4) s4).mono ?_
      rintro e w4 ⟨rfl, t4, hG2⟩
      have hI2 := GrewIn.of_grew hG2 (unhide I4)
      have t1 := hG2.owns (unhide V1) (apart_ne (unhide P14))
      have t2 := hG2.owns (unhide V2) (apart_ne (unhide P24))
      have t3 := hG2.owns (unhide V3) (apart_ne (unhide P34))
      have hfin := (GrewIn.of_below (B := B) (E := E) (by rw [hsz]; exact unhide Hb0)).trans ((unhide HI3).trans hI2)
      have HF := hide hfin
      have W1 := hide t1
      have W2 := hide t2
      have W3 := hide t3
      have W4 := hide t4
      clear x0 x1 x2 x3 x4 x5 y0 y1 y2 y3 y4 y5 t1 t2 t3 t4 hI2 hG2 V1 V2 V3 V4 HI3 hfin
      go_wp2_with fail
      go_end0
      exact ⟨rfl, ⟨a1, c1, a2, c2, a3, c3, a4, c4, rfl, unhide W1, unhide W2, unhide W3, unhide W4, unhide P12, unhide P13, unhide P14, unhide P23, unhide P24, unhide P34⟩, unhide HF⟩

end Go.Proofs.Ytdhobdmhnocbgaa
