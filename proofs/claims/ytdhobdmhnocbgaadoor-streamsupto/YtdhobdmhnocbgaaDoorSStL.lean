/-
  Walks over the law: Streams.
-/
import Derived.Test.YtdhobdmhnocbgaaDoorSStK
namespace Go.Proofs.YtdhobdmhnocbgaaDoor
open Go.RowKit Zr

/-- A chunk of the script. -/
structure Ck where
  feed : Int
  s : ByteArray
  look : Bool

def ck3 (c : Ck) : List Value := [.int .i64 c.feed, .string c.s, .bool c.look]
def ckC (l : List Ck) : List Value := l.flatMap ck3
def szC : List Ck → Nat
  | [] => 0
  | c :: l => c.s.size + szC l

theorem ckC_len (l : List Ck) : (ckC l).length = l.length * 3 := by
  induction l with
  | nil => rfl
  | cons x l ih => simp only [ckC, List.flatMap_cons, List.length_append, List.length_cons] at ih ⊢; rw [ih]; show 3 + _ = _; omega
theorem ck_cell : ∀ (l : List Ck) (i : Nat) (h : i < l.length) (j : Nat), j < 3 → (ckC l)[i * 3 + j]? = (ck3 l[i])[j]?
  | x :: l, 0, _, j, hj => by
    show (ck3 x ++ ckC l)[0 * 3 + j]? = (ck3 x)[j]?
    rw [Nat.zero_mul, Nat.zero_add, List.getElem?_append_left (by show j < 3; exact hj)]
  | x :: l, i + 1, h, j, hj => by
    have h' : i < l.length := by simpa using h
    show (ck3 x ++ ckC l)[(i + 1) * 3 + j]? = (ck3 l[i])[j]?
    rw [List.getElem?_append_right (by show 3 ≤ _; omega)]
    have := ck_cell l i h' j hj
    rw [← this]
    congr 1
    show (i + 1) * 3 + j - 3 = _
    omega
theorem row_c {w : World} {N : Nat} {a : Option Addr} {l : List Ck} (h : RowAt w N a (ckC l)) (i : Nat) (hi : i < l.length) :
    ∃ b o, a = some ⟨b, o, none⟩ ∧ b < N ∧ w.cell? ⟨b, o + i * 3, none⟩ = some (.int .i64 l[i].feed) ∧ w.cell? ⟨b, o + i * 3 + 1, none⟩ = some (.string l[i].s) ∧ w.cell? ⟨b, o + i * 3 + 2, none⟩ = some (.bool l[i].look) := by
  obtain ⟨b, o, h1, h2, h3⟩ := h (fun e => by have := ckC_len l; rw [e] at this; simp at this; omega)
  refine ⟨b, o, h1, h2, ?_, ?_, ?_⟩
  · exact h3 (i * 3 + 0) _ (ck_cell l i hi 0 (by omega))
  · exact h3 (i * 3 + 1) _ (ck_cell l i hi 1 (by omega))
  · exact h3 (i * 3 + 2) _ (ck_cell l i hi 2 (by omega))

theorem szC_append : ∀ a b, szC (a ++ b) = szC a + szC b
  | [], b => (Nat.zero_add _).symm
  | x :: a, b => by show x.s.size + szC (a ++ b) = x.s.size + szC a + szC b; rw [szC_append a b]; omega
theorem szC_take (l : List Ck) (j : Nat) (h : j < l.length) : szC (l.take (j + 1)) = szC (l.take j) + l[j].s.size := by
  rw [List.take_succ_eq_append_getElem h, szC_append]
  rfl
theorem szC_take_le (l : List Ck) (j : Nat) : szC (l.take j) ≤ szC l := by
  conv => rhs; rw [← List.take_append_drop j l]
  rw [szC_append]
  omega

theorem cut_empty : cutP ⟨#[]⟩ 0 = ([], 0) := cut_no fun h => absurd h.1 (by decide)

theorem owns_two {w : World} {N : Nat} {e : TypeId} {v x y : Value} (h : w.ownsRow N e 1 v 2 [x, y]) : ∃ (g c : Nat) (cs : Array Value), v = .slice (some ⟨g, 0, none⟩) 2 c ∧ N ≤ g ∧ w.heap[g]? = some (.cells cs e (0, 0)) ∧ cs[0]? = some x ∧ cs[1]? = some y := by
  rcases h.2 with ⟨_, h2⟩ | ⟨g, cap, cur, h1, h2, h3, h4, h5, h6, h7⟩
  · cases h2
  · refine ⟨g, cap, cur, h1, h2, h3, ?_, ?_⟩
    · have := congrArg (fun l => l[0]?) h7
      simp only [List.getElem?_take] at this
      simpa using this
    · have := congrArg (fun l => l[1]?) h7
      simp only [List.getElem?_take] at this
      simpa using this

theorem bg_ls {w : World} {N : Nat} {vx va vg : Value} {R0 R1 : Nat} (h : Bg w N vx 2 [R0, R1] va 2 [.string ⟨#[]⟩, .string ⟨#[]⟩] vg 2 [.int .i64 0, .int .i64 0]) (hR : R0 ≠ R1) : Ls w N N 0 0 := by
  obtain ⟨X, cx, xs, rfl, x1, x2, x3, x4⟩ := owns_two (show w.ownsRow N _ 1 vx 2 [.pointer (some ⟨R0, 0, none⟩), .pointer (some ⟨R1, 0, none⟩)] from h.hx)
  obtain ⟨A, ca, ts, rfl, a1, a2, a3, a4⟩ := owns_two h.ha
  obtain ⟨G, cg, gs, rfl, g1, g2, g3, g4⟩ := owns_two h.hg
  have two : ∀ {P : Nat → Prop}, P 0 → P 1 → ∀ k, k < 2 → P k := fun h0 h1 k hk => by
    have : k = 0 ∨ k = 1 := by omega
    rcases this with rfl | rfl
    · exact h0
    · exact h1
  refine ⟨X, A, G, cx, ca, cg, xs, ts, gs, fun k => if k = 0 then R0 else R1, fun _ => ⟨#[]⟩, .slice none 0 0, [], .slice none 0 0, [], ⟨h.hB, x2, a2, g2, World.ownsRow_nil _ _ _ _, World.ownsRow_nil _ _ _ _, ?_, two ?_ ?_⟩, two x3 x4, two a3 a4, two ?_ ?_, hR, ⟨Nat.le_refl _, a1, g1, two ?_ ?_⟩, Nat.le_refl _, fun i hi => by omega⟩
  · intro g hg
    simp [Value.ownBlock] at hg
  · exact fd_new (h.hf R0 (by simp)).2
  · exact fd_new (h.hf R1 (by simp)).2
  · rw [cut_empty]; exact g3
  · rw [cut_empty]; exact g4
  · exact (h.hf R0 (by simp)).1
  · exact (h.hf R1 (by simp)).1

theorem looks_ls {M B n m : Nat} {w : World} (h : Ls w M B n m) (hn : n ≤ 67108864) :
    Calls Tryd.prog 7 #[.pointer (some ⟨B, 0, none⟩)] w fun r w' => r = .returned (.bool true) ∧ ∃ t, w' = w.drewN t := by
  obtain ⟨X, A, G, cx, ca, cg, xs, ts, gs, R, p, v1, o1, v2, o2, hl, hx, ha, hg, hR, hM, hp, hal⟩ := h
  obtain ⟨av1, cv1, rfl⟩ := owns_shape hl.h1
  obtain ⟨av2, cv2, rfl⟩ := owns_shape hl.h2
  refine looks_any B n M av1 av2 cv1 cv2 _ _ _ o1 o2 w hl.hB hl.h1 hl.h2 (fun i hi => ?_) hn
  obtain ⟨a, c, a2, c2, T, q1, q2, q3, q4, q5⟩ := hal i hi
  exact ⟨a, c, a2, c2, T, q1, q2, q3, q4.row, q5.row⟩

set_option maxRecDepth 100000 in
set_option maxHeartbeats 2000000 in
theorem streams_any (l : List ByteArray) (a : Option Addr) (c N : Nat) (sc : List Ck) (a2 : Option Addr) (c2 : Nat) (w : World) (hrow : RowAt w N a (stC l)) (hrow2 : RowAt w N a2 (ckC sc)) (hN : N ≤ w.heap.size) (hl : l.length ≤ 1048576) (hz : heldP l ≤ 67108864)
    (hsl : sc.length ≤ 1048576) (hsz : szC sc ≤ 1048576) (hint : ∀ i (h : i < sc.length), -9223372036854775808 ≤ sc[i].feed ∧ sc[i].feed < 9223372036854775808)
    (htab : Lib.TabIs Tryd.prog w "internal/strconv.uint64pow10" .u64 Lib.pow10Tab) :
    Calls Tryd.prog 3 #[.slice a l.length c, .slice a2 sc.length c2] w fun e w' => e = .returned (.bool true) ∧ Below w.heap.size w w' := by
  have K1 := hide (framed_any l a c N w hrow hN (by omega) hz)
  have HRow := hide (fun W (h : Below N w W) => hrow2.below h)
  have HTab := hide (Lib.tabBelow_of_tabIs htab)
  have HInt := hide hint
  have HSz := hide (fun j (h : j < sc.length) => szC_take sc j h)
  have HSz2 := hide (fun j => szC_take_le sc j)
  clear hrow hrow2 htab hint hz
  go_enter Tryd.func3, Tryd.ntmps3
  go_wp2_with fail
  refine (unhide K1).mono ?_
  rintro e w1 ⟨rfl, q1⟩
  have HB1 := hide q1
  have hs1 : w.heap.size ≤ w1.heap.size := q1.size
  have K2 := hide (begun_bg w1)
  clear q1 K1
  go_wp2_with fail
  refine (unhide K2).mono ?_
  rintro e w2 ⟨vx, va, vg, R0, R1, rfl, q2, q3, q4⟩
  have HLs := hide (bg_ls q2 q3)
  have HB2 := hide ((unhide HB1).trans (q4.mono hs1))
  have hs2 : w1.heap.size ≤ w2.heap.size := q4.size
  clear q2 q3 q4 K2 HB1
  obtain ⟨M, hM⟩ : ∃ M, w1.heap.size = M := ⟨_, rfl⟩
  rw [hM] at hs1 hs2 HLs
  simp only [hM]
  clear hM
  have HT2 : Hid (∀ W, Below M w2 W → Lib.TabBelow Tryd.prog M W "internal/strconv.uint64pow10" .u64 Lib.pow10Tab) := hide fun W h1 W' h2 => unhide HTab W' ((unhide HB2).trans ((h1.trans h2).mono hs1))
  go_wp2_with fail
  go_loopg [7] (sc.length + 1) (fun g vi w' => ∃ j n m : Nat, vi = .int .i64 j ∧ j ≤ sc.length ∧ g = sc.length + 1 - j ∧ n ≤ j ∧ m ≤ 1048576 ∧ Hid (m ≤ szC (sc.take j)) ∧ Hid (Ls w' M M n m) ∧ Hid (Below M w2 w'))
  case atStart => exact ⟨0, 0, 0, rfl, Nat.zero_le _, rfl, Nat.le_refl _, Nat.zero_le _, hide (Nat.zero_le _), HLs, hide (Below.refl _ _)⟩
  case round =>
    obtain ⟨j, n, m, rfl, hj, rfl, hnj, hm, HMz, HL, HBw⟩ := hrel
    by_cases cj : j < sc.length
    · obtain ⟨b, o, rfl, hb, x0, x1, x2⟩ := row_c (unhide HRow _ (((unhide HB2).trans ((unhide HBw).mono hs1)).mono hN)) j cj
      have hf := unhide HInt j cj
      have hz3 := unhide HSz j cj
      have hz4 := unhide HSz2 (j + 1)
      have hz5 := unhide HMz
      have KP := hide (pushed_any M M n m sc[j].feed sc[j].s sc[j].look wr (unhide HL) hf.1 hf.2 (by omega) (by omega) (unhide HT2 _ (unhide HBw)))
      have hm2 : m + sc[j].s.size ≤ 1048576 := by omega
      have HMn : Hid (m + sc[j].s.size ≤ szC (sc.take (j + 1))) := hide (by omega)
      clear hz3 hz4 hz5 hf
      generalize sc[j] = ck at *
      obtain ⟨f, s, look⟩ := ck
      simp only at x0 x1 x2 KP hm2 HMn
      go_wp2_with fail
      refine (unhide KP).mono ?_
      rintro e w3 ⟨rfl, q1, n', q2, q3⟩
      have HB3 := hide ((unhide HBw).trans q1)
      have KL := hide (looks_ls q3 (by omega))
      have HL3 := hide q3
      clear q1 q3 KP
      go_wp2_with fail
      refine (unhide KL).mono ?_
      rintro e w4 ⟨rfl, t, rfl⟩
      go_wp2_with fail
      go_roundg (sc.length + 1 - (j + 1))
      case measure => omega
      case rel => exact ⟨j + 1, n', m + s.size, by go_num, by omega, rfl, by omega, hm2, HMn, hide ((unhide HL3).below (below_drewNB _ _ _)), hide ((unhide HB3).trans (below_drewNB _ _ _))⟩
    · go_wp2_with fail
      go_ret
      exact ⟨rfl, (unhide HB2).trans ((unhide HBw).mono hs1)⟩

end Go.Proofs.YtdhobdmhnocbgaaDoor
