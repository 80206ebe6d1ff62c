/-
  Walks: the writer's data and records (shortData, record).
-/
import Derived.Test.YtdhobdmhnocbgaaGreatSMsgx
import Derived.Test.YtdhobdmhnocbgaaGreatSWellY
namespace Go.Proofs.YtdhobdmhnocbgaaGreat
open Go.RowKit Zr

/-- A reader beside the writer. -/
theorem Wr.rdr {w w' : World} {N R R2 : Nat} {B : ByteArray} {K : List (ByteArray × Nat)} {b : ByteArray} {k e : Int} (h : Wr w N R B K) (hr : w.heap[R2]? = some (rdr b k e)) (hg : w.grownBy w' (some R2)) : Wr w' N R B K := by
  obtain ⟨vb, ab, cb, vk, ak, ck, hR, hN, e1, e2, o1, o2⟩ := h
  unfold Go.Proofs.YtdhobdmhnocbgaaGreat.rdr at hr
  have hne : ∀ {e' : TypeId} {size : Nat} {v : Value} {n : Nat} {xs : List Value}, w.ownsRow N e' size v n xs → e' ≠ 114 → v.ownBlock = none ∨ v.ownBlock ≠ some R2 := by
    intro e' size v n xs ho ht
    rcases ho.2 with ⟨rfl, _⟩ | ⟨g, cap, cur, rfl, hbg, hgg, _⟩
    · exact .inl rfl
    · refine .inr (fun he => ?_)
      simp only [Value.ownBlock, Option.some.injEq] at he
      subst he
      rw [hgg] at hr
      cases hr
      exact ht rfl
  refine ⟨vb, ab, cb, vk, ak, ck, (hg.block R (blk_lt hR) (fun he => ?_)).trans hR, hN, e1, e2, o1.kept hg (hne o1 (by decide)), o2.kept hg (hne o2 (by decide))⟩
  cases he
  rw [hR] at hr
  cases hr

theorem WFrame.grown_new {N R2 : Nat} {w a b : World} (h : WFrame N w a) (hg : a.grownBy b (some R2)) (hR : w.heap.size ≤ R2) : WFrame N w b :=
  ⟨hg.os.trans h.os, hg.tape.trans h.tape, hg.output.trans h.output, Nat.le_trans h.size hg.size,
    fun k h1 h2 => (hg.block k (Nat.lt_of_lt_of_le h2 h.size) (fun e => by cases e; omega)).trans (h.low k h1 h2),
    fun k cs t fr h1 h2 h3 h4 => (hg.block k (Nat.lt_of_lt_of_le (blk_lt h1) h.size) (fun e => by cases e; have := blk_lt h1; omega)).trans (h.kind k cs t fr h1 h2 h3 h4)⟩

theorem WFrame.rdr {N R2 : Nat} {w a : World} {b : ByteArray} {k e : Int} (h : WFrame N w a) (hr : w.heap[R2]? = some (rdr b k e)) : a.heap[R2]? = some (rdr b k e) :=
  h.kind R2 _ _ _ hr (by decide) (by decide) (by decide)

set_option maxRecDepth 100000 in
set_option maxHeartbeats 2000000 in
theorem shortData_w (N R : Nat) (B : ByteArray) (K : List (ByteArray × Nat)) (d : ByteArray) (t p : Nat) (w : World) (h : Wr w N R B K) (hK : K.length ≤ 200000) (hO : KOk K) (hp : p ≤ 1000000) (hd : wellD t d) :
    Calls Tryz.prog 169 #[.pointer (some ⟨R, 0, none⟩), .string d, .int .i64 t, .int .i64 p] w fun e w' => e = .returned (.string (sdata K d t p).1) ∧ Wr w' N R B (sdata K d t p).2 ∧ WFrame N w w' := by
  have hds := hd.1
  have hlt := h.lt
  by_cases hn : namesOf t = 0
  · have hS : sdata K d t p = (d, K) := by
      unfold sdata
      rw [hn]
      simp only [sdTo]
      rw [extract_all, empty_append]
    rw [hS]
    have hnn : ¬ ((t : Int) = 2 ∨ (t : Int) = 5 ∨ (t : Int) = 12) := by unfold namesOf at hn; intro c; rw [if_pos (by omega)] at hn; omega
    have hn6 : (t : Int) ≠ 6 := by unfold namesOf at hn; intro c; rw [if_neg (by omega), if_pos (by omega)] at hn; omega
    have H := hide h
    have H1 := hide hnn
    have H2 := hide hn6
    clear h hnn hn6 hn hS hd
    go_enter Tryz.func169, Tryz.ntmps169
    go_wp2_with fail
    refine (namesIn_none _ _ (unhide H1) (unhide H2)).mono ?_
    rintro e w1 ⟨rfl, rfl⟩
    go_wp2_with fail
    go_ret
    exact ⟨rfl, unhide H, WFrame.refl _ _⟩
  · obtain ⟨hnm, hend⟩ := wellD_names K d t p hd hn
    have key : ∀ w, Calls Tryz.prog 175 #[.int .i64 t] w fun e w' => e = .returned (.tuple #[.int .i64 (namesOf t), .int .i64 (restOf t)]) ∧ w' = w := by
      intro w
      by_cases c1 : t = 2 ∨ t = 5 ∨ t = 12
      · have h1 := namesIn_one (t : Int) w (by omega)
        have e1 : namesOf t = 1 := by unfold namesOf; rw [if_pos c1]
        have e2 : restOf t = 0 := by unfold restOf; rw [if_pos c1]
        rw [e1, e2]; exact h1
      · have e0 : t = 6 := by unfold namesOf at hn; rw [if_neg c1] at hn; split at hn <;> omega
        subst e0
        exact namesIn_two w
    have Key := hide key
    have HN := hide hnm
    have HE := hide hend
    have H := hide h
    have HO := hide hO
    have hm2 := namesOf_le t
    have hrest : restOf t ≤ 20 := by unfold restOf; split <;> (try split) <;> omega
    have hpos : 0 < namesOf t := by omega
    have hS : sdata K d t p = ((sdTo K d p (namesOf t)).1 ++ d.extract (sdTo K d p (namesOf t)).2.2 d.size, (sdTo K d p (namesOf t)).2.1) := rfl
    have HS := hide hS
    have HBd := hide (sd_bounds K d p hO)
    clear key hnm hend h hO hn hd hS
    generalize namesOf t = m at *
    generalize restOf t = more at *
    obtain ⟨R2, hR2⟩ : ∃ R2, w.heap.size = R2 := ⟨_, rfl⟩
    have h0 : ∀ o, (w.alloc o).heap[R2]? = some o := fun o => by rw [← hR2]; exact heap_alloc_new _ _
    have HA := hide h0
    clear h0
    have hm0 : ((m : Int) == 0) = false := beq_eq_false_iff_ne.2 (by omega)
    go_enter Tryz.func169, Tryz.ntmps169
    go_wp2_with fail
    refine (unhide Key _).mono ?_
    rintro e w1 ⟨rfl, hw1⟩
    rw [hw1]
    clear hw1
    go_wp2_with fail
    go_loopw [12, 13] (fun v i w' => ∃ j : Nat, v = .string (sdTo K d p j).1 ∧ i = .int .i64 j ∧ j ≤ m ∧ Hid (w'.heap[R2]? = some (rdr d (sdTo K d p j).2.2 0)) ∧ Hid (Wr w' N R B (sdTo K d p j).2.1) ∧ Hid (WFrame N w w')) (fun _ i _ => m - (intOf i).toNat)
    case atStart =>
      have hal : Below w.heap.size w (w.alloc (.cells #[.string d, .int .i64 0, .int .i64 0] 114)) := (Below.refl _ _).alloc (Nat.le_refl _) _
      exact ⟨0, rfl, rfl, Nat.zero_le _, unhide HA _, (unhide H).below hal, WFrame.of_below hal⟩
    case round =>
      obtain ⟨j, rfl, rfl, hj, hr, hW, hF⟩ := hrel
      obtain ⟨b1, b2, b3, b4⟩ := unhide HBd j
      by_cases cj : j < m
      · obtain ⟨x, u, hx⟩ := unhide HN j cj
        have hnx := sd_next K d p j x u hx
        have hw := name_whole d _ x u hx
        have hxb := nameAt_bounds d _ x u hx
        have Hx := hide hx
        have HNX := hide hnx
        have HB3 := hide b3
        have hWl := (unhide hW).lt
        obtain ⟨tl0, tl1⟩ := tl_ok hw
        have HTl := hide tl0
        clear hx hnx b3 hw tl0
        generalize sdTo K d p j = st at *
        obtain ⟨s, K1, q⟩ := st
        simp only at *
        go_wp2_with fail
        refine (name_ok R2 d q _ (by omega) (unhide hr) (by omega) (by omega) x u (by rw [Int.toNat_natCast]; exact Hx)).mono ?_
        rintro e w1 ⟨rfl, hR1, hg1⟩
        have hW1 := (unhide hW).rdr (unhide hr) hg1
        have hF1 := (unhide hF).grown_new hg1 (by omega)
        have HR1 := hide hR1
        have HW1 := hide hW1
        have HF1 := hide hF1
        clear hR1 hg1 hW1 hF1 hW hF hr
        go_wp2_with fail
        refine (short_w N R B K1 x (p + s.size) _ (unhide HW1) (by omega) (unhide HB3) (by omega) (unhide HTl) tl1).mono ?_
        rintro e w2 ⟨rfl, h2, f2⟩
        have hR2' := f2.rdr (unhide HR1)
        have HR2 := hide hR2'
        have H2 := hide h2
        have F2 := hide ((unhide HF1).trans f2)
        have hsl := (short_len K1 x (p + s.size)).2
        clear hR2' h2 f2
        generalize short K1 x (p + s.size) = r at *
        obtain ⟨r1, r2⟩ := r
        simp only at *
        go_wp2_with fail
        go_roundw
        case rel => exact ⟨j + 1, by rw [unhide HNX], by go_num, by omega, by rw [unhide HNX]; exact HR2, by rw [unhide HNX]; exact H2, F2⟩
        case measure => simp [intOf]; omega
      · have hjm : j = m := by omega
        subst hjm
        have hend := unhide HE
        have hz : (d.extract (sdTo K d p j).2.2 ((sdTo K d p j).2.2 + more)).size ≤ 65535 := by rw [ByteArray.size_extract]; omega
        clear HE HN HBd Key
        generalize sdTo K d p j = st at *
        obtain ⟨s, K1, q⟩ := st
        simp only at *
        go_wp2_with fail
        refine (bytes_ok R2 d q more _ hds (unhide hr) (by omega) (by omega) (by omega)).mono ?_
        rw [Int.toNat_natCast, Int.toNat_natCast]
        rintro e w1 ⟨rfl, hR1, hg1⟩
        have hW1 := (unhide hW).rdr (unhide hr) hg1
        have hF1 := (unhide hF).grown_new hg1 (by omega)
        have HW1 := hide hW1
        have HF1 := hide hF1
        clear hR1 hg1 hW1 hF1
        go_wp2_with fail
        go_ret
        exact ⟨by rw [unhide HS]; rfl, by rw [unhide HS]; exact unhide HW1, unhide HF1⟩

end Go.Proofs.YtdhobdmhnocbgaaGreat
