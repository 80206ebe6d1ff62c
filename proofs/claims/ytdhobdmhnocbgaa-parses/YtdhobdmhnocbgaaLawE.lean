/-
  Walks over the law: what the owner of a message writes into its lists, and reads again.
-/
import Derived.Test.YtdhobdmhnocbgaaLawD
namespace Go.Proofs.Ytdhobdmhnocbgaa
open Go.RowKit Zr

/-- The first j elements bear the mark. -/
def MarkedTo (w : World) (e : TypeId) (size : Nat) (a : Option Addr) (n c j : Nat) (mark : Int) : Prop :=
  n = 0 ∨ ∃ g cur, a = some ⟨g, 0, none⟩ ∧ w.heap[g]? = some (.cells cur e (0, 0)) ∧ cur.size = c * size ∧ n ≤ c ∧ ∀ k, k < j → cur[k * size + 1]? = some (.int .i64 mark)

theorem markedTo_start {w : World} {N : Nat} {e : TypeId} {size : Nat} {a : Option Addr} {n c : Nat} {xs : List Value} (h : w.ownsRow N e size (.slice a n c) n xs) (mark : Int) : MarkedTo w e size a n c 0 mark := by
  rcases h.2 with ⟨_, h2⟩ | ⟨g, cap, cur, h1, _, h3, h4, _, h6, _⟩
  · exact .inl h2
  · cases h1
    exact .inr ⟨g, cur, rfl, h3, h6, h4, fun k hk => by omega⟩

theorem owns_cap {w : World} {N : Nat} {e : TypeId} {size : Nat} {a : Option Addr} {n c : Nat} {xs : List Value} (h : w.ownsRow N e size (.slice a n c) n xs) : c ≤ 9223372036854775807 := by
  rcases h.2 with ⟨h1, _⟩ | ⟨g, cap, cur, h1, _, _, _, h5, _⟩
  · cases h1; omega
  · cases h1; unfold maxLen at h5; omega

set_option maxRecDepth 100000 in
set_option maxHeartbeats 2000000 in
theorem own_any (m : Msg) (v : Value) (B E : Nat) (mark : Int) (w : World) (h : MsgIs w B v m) (hu : MsgUnder v E) (hs : Small m) (hE : E ≤ w.heap.size) (hm0 : 0 ≤ mark) (hm1 : mark ≤ 1000000000) :
    Calls Try.prog 41 #[v, .int .i64 mark] w fun e w' => e = .returned (.bool true) ∧ GrewIn w w' B E := by
  obtain ⟨a1, c1, a2, c2, a3, c3, a4, c4, rfl, o1, o2, o3, o4, p12, p13, p14, p23, p24, p34⟩ := h
  obtain ⟨u1, u2, u3, u4⟩ := hu _ _ _ _ _ _ rfl
  obtain ⟨s1, s2, s3, s4⟩ := hs
  obtain ⟨box, hbox⟩ : ∃ o : Obj, o = .cells #[.int .i64 m.id, .int .i64 m.flags, .slice a1 m.q.length c1, .slice a2 m.a.length c2, .slice a3 m.u.length c3, .slice a4 m.x.length c4] 25 (0, 0) := ⟨_, rfl⟩
  obtain ⟨w0, hw0⟩ : ∃ w0, w0 = w.alloc box := ⟨_, rfl⟩
  have hb0 : Below w.heap.size w w0 := by rw [hw0]; exact (Below.refl _ _).alloc (Nat.le_refl _) _
  have hB0 : w0.heap[w.heap.size]? = some box := by rw [hw0]; exact heap_alloc_new _ _
  have q1 := owns_below o1 hb0
  have HcM := owns_cap o1
  have Q1 := hide (markedTo_start q1 mark)
  have Q2 := hide (owns_below o2 hb0)
  have Q3 := hide (owns_below o3 hb0)
  have Q4 := hide (owns_below o4 hb0)
  have I1 := hide (in_of o1 u1)
  have I2 := hide (in_of o2 u2)
  have I3 := hide (in_of o3 u3)
  have I4 := hide (in_of o4 u4)
  have P12 := hide p12
  have P13 := hide p13
  have P14 := hide p14
  have P23 := hide p23
  have P24 := hide p24
  have P34 := hide p34
  have HB0 := hide hB0
  have Hb0 := hide hb0
  have hmm : (mark != mark) = false := by simp
  clear o1 o2 o3 o4 u1 u2 u3 u4 hu p12 p13 p14 p23 p24 p34 q1 hB0 hb0
  go_enter Try.func41, Try.ntmps41
  go_wp2_with fail
  rw [← hbox, ← hw0]
  have HBX := hide hbox
  clear hbox hw0
  generalize hsz : w.heap.size = S at *
  go_loopg [5] (m.q.length + 1) (fun gk i w' => ∃ j : Nat, i = .int .i64 j ∧ j ≤ m.q.length ∧ gk = m.q.length + 1 - j ∧ Hid (MarkedTo w' 74 3 a1 m.q.length c1 j mark) ∧ Hid (Grew w0 w' (Value.slice a1 m.q.length c1).ownBlock))
  case atStart => exact ⟨0, rfl, Nat.zero_le _, rfl, Q1, Grew.refl _ _⟩
  case round =>
    obtain ⟨j, rfl, hj, hg, hM, hG⟩ := hrel
    have hB1 := (GrewIn.of_grew (unhide hG) (unhide I1)).blk (unhide HB0) (.inr hE)
    rw [unhide HBX] at hB1
    obtain ⟨⟨x0, x1, x2, x3, x4, x5⟩, y0, y1, y2, y3, y4, y5⟩ := cells6 hB1
    have HB1 := hide hB1
    clear hB1
    by_cases cj : j < m.q.length
    · rcases unhide hM with hz | ⟨g, cur, rfl, hB, hS, hnc, hmk⟩
      · omega
      · have hgE := unhide I1 g rfl
        obtain ⟨z0, k0⟩ := cells_at hB (j * 3) (by omega)
        obtain ⟨z1, k1⟩ := cells_at hB (j * 3 + 1) (by omega)
        obtain ⟨z2, k2⟩ := cells_at hB (j * 3 + 2) (by omega)
        have f0 := frozen_of_blk hB (j * 3)
        have f1 := frozen_of_blk hB (j * 3 + 1)
        have f2 := frozen_of_blk hB (j * 3 + 2)
        have hlt := blk_lt hB
        have HBg := hide hB
        have HS := hide hS
        have HMK := hide hmk
        clear hB hS hmk hM
        go_wp2_with fail
        go_roundg (m.q.length + 1 - (j + 1))
        case measure => omega
        case rel =>
          refine ⟨j + 1, by go_num, by omega, rfl, .inr ⟨g, _, rfl, set3 (unhide HBg) (j * 3) _ _ _, ?_, hnc, ?_⟩, ?_⟩
          · simp only [Array.size_setIfInBounds]; exact unhide HS
          · intro k hk
            have hs := unhide HS
            rw [mark3]
            by_cases hkj : k = j
            · subst hkj
              rw [if_pos ⟨rfl, by omega⟩]
            · rw [if_neg (by omega), if_neg (by omega)]
              exact unhide HMK k (by omega)
          · exact (((unhide hG).trans (Grew.set _ _ _ _)).trans (Grew.set _ _ _ _)).trans (Grew.set _ _ _ _)
    · have hjn : j = m.q.length := by omega
      subst hjn
      have hM1 : Marked wr 74 3 a1 m.q.length c1 mark := unhide hM
      have M1 := hide hM1
      have R2 := hide ((unhide hG).owns (unhide Q2) (apart_ne (unhide P12).symm))
      have R3 := hide ((unhide hG).owns (unhide Q3) (apart_ne (unhide P13).symm))
      have R4 := hide ((unhide hG).owns (unhide Q4) (apart_ne (unhide P14).symm))
      have HI1 := hide (GrewIn.of_grew (unhide hG) (unhide I1))
      clear hM hM1 hG Q1 Q2 Q3 Q4
      go_wp2_with fail
      refine (full_any a2 m.a.length c2 B (rcells m.a) (mark + 1) _ (unhide R2) s2).mono ?_
      rintro e w2 ⟨rfl, m2, hG2⟩
      have hI2 := GrewIn.of_grew hG2 (unhide I2)
      have hB2 := hI2.blk (unhide HB1) (.inr hE)
      have N1 := hide ((unhide M1).keep hG2 (apart_ne (unhide P12)))
      have N2 := hide m2
      have T3 := hide (hG2.owns (unhide R3) (apart_ne (unhide P23).symm))
      have T4 := hide (hG2.owns (unhide R4) (apart_ne (unhide P24).symm))
      have HI2 := hide ((unhide HI1).trans hI2)
      clear x0 x1 x2 x3 x4 x5 y0 y1 y2 y3 y4 y5
      obtain ⟨⟨x0, x1, x2, x3, x4, x5⟩, y0, y1, y2, y3, y4, y5⟩ := cells6 hB2
      have HB2 := hide hB2
      clear hI2 hB2 hG2 m2 M1 R2 R3 R4 HI1 HB1
      go_wp2_with fail
      refine (full_any a3 m.u.length c3 B (rcells m.u) (mark + 2) _ (unhide T3) s3).mono ?_
      rintro e w3 ⟨rfl, m3, hG3⟩
      have hI3 := GrewIn.of_grew hG3 (unhide I3)
      have hB3 := hI3.blk (unhide HB2) (.inr hE)
      have O1 := hide ((unhide N1).keep hG3 (apart_ne (unhide P13)))
      have O2 := hide ((unhide N2).keep hG3 (apart_ne (unhide P23)))
      have O3 := hide m3
      have U4 := hide (hG3.owns (unhide T4) (apart_ne (unhide P34).symm))
      have HI3 := hide ((unhide HI2).trans hI3)
      clear x0 x1 x2 x3 x4 x5 y0 y1 y2 y3 y4 y5
      obtain ⟨⟨x0, x1, x2, x3, x4, x5⟩, y0, y1, y2, y3, y4, y5⟩ := cells6 hB3
      have HB3 := hide hB3
      clear hI3 hB3 hG3 m3 N1 N2 T3 T4 HI2 HB2
      go_wp2_with fail
      refine (full_any a4 m.x.length c4 B (rcells m.x) (mark + 3) _ (unhide U4) s4).mono ?_
      rintro e w4 ⟨rfl, m4, hG4⟩
      have hI4 := GrewIn.of_grew hG4 (unhide I4)
      have hB4 := hI4.blk (unhide HB3) (.inr hE)
      have L1 := hide ((unhide O1).keep hG4 (apart_ne (unhide P14)))
      have L2 := hide ((unhide O2).keep hG4 (apart_ne (unhide P24)))
      have L3 := hide ((unhide O3).keep hG4 (apart_ne (unhide P34)))
      have L4 := hide m4
      have HI4 := hide ((unhide HI3).trans hI4)
      clear x0 x1 x2 x3 x4 x5 y0 y1 y2 y3 y4 y5
      obtain ⟨⟨x0, x1, x2, x3, x4, x5⟩, y0, y1, y2, y3, y4, y5⟩ := cells6 hB4
      clear hI4 hB4 hG4 m4 O1 O2 O3 U4 HI3 HB3
      have hfin := (GrewIn.of_below (B := B) (E := E) (by rw [hsz]; exact unhide Hb0)).trans (unhide HI4)
      have HF := hide hfin
      clear hfin HI4
      go_wp2_with fail
      go_loop [6] (fun i => ∃ j : Nat, j ≤ m.q.length ∧ i = .int .i64 j) (fun i => m.q.length - (intOf i).toNat)
      case atStart => exact ⟨0, Nat.zero_le _, rfl⟩
      case round =>
        obtain ⟨j, hj2, rfl⟩ := hrel
        by_cases cj2 : j < m.q.length
        · rcases unhide L1 with hz | ⟨g, cur, rfl, hB, hS, hnc, hmk⟩
          · omega
          · have hc : w4.cell? ⟨g, j * 3 + 1, none⟩ = some (.int .i64 mark) := by rw [cell_of_blk hB]; exact hmk j cj2
            clear hB hS hmk
            go_wp2_with fail
            go_round
            case rel => exact ⟨j + 1, by omega, by go_num⟩
            case measure => simp [intOf]; omega
        · go_wp2_with fail
          refine (reads_any a2 m.a.length c2 (mark + 1) _ (unhide L2) s2).mono ?_
          rintro e w5 ⟨rfl, rfl⟩
          go_wp2_with fail
          refine (reads_any a3 m.u.length c3 (mark + 2) _ (unhide L3) s3).mono ?_
          rintro e w5 ⟨rfl, rfl⟩
          go_wp2_with fail
          refine (reads_any a4 m.x.length c4 (mark + 3) _ (unhide L4) s4).mono ?_
          rintro e w5 ⟨rfl, rfl⟩
          go_wp2_with fail
          go_ret
          exact ⟨rfl, unhide HF⟩

end Go.Proofs.Ytdhobdmhnocbgaa
