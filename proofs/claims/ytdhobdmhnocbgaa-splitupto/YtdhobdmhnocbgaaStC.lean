/-
  Walks: messages as a stream (Frame); the calls of package zone.
-/
import Derived.Test.YtdhobdmhnocbgaaStB
import Derived.Test.YtdhobdmhnocbgaaWritW
import Derived.Test.YtdhobdmhnocbgaaWellX
namespace Go.Proofs.Ytdhobdmhnocbgaa
open Go.RowKit Zr

/-- What Frame answers. -/
def FrmIs (l : List ByteArray) (s : ByteArray) (e : Int) : Prop :=
  (∃ x, x ∈ l ∧ 65535 < x.size) ∧ s = ⟨#[]⟩ ∧ e = 1 ∨ (∀ x, x ∈ l → x.size ≤ 65535) ∧ s = frameP l ∧ e = 0

theorem FrmIs.same {l : List ByteArray} {s t : ByteArray} {e f : Int} (h : FrmIs l s e) (k : FrmIs l t f) : s = t ∧ e = f := by
  rcases h with ⟨⟨x, hx, hx2⟩, h1, h2⟩ | ⟨h0, h1, h2⟩ <;> rcases k with ⟨⟨y, hy, hy2⟩, k1, k2⟩ | ⟨k0, k1, k2⟩
  · exact ⟨h1.trans k1.symm, h2.trans k2.symm⟩
  · exact absurd (k0 x hx) (by omega)
  · exact absurd (h0 y hy) (by omega)
  · exact ⟨h1.trans k1.symm, h2.trans k2.symm⟩

theorem stC_at {l : List ByteArray} {i : Nat} (h : i < l.length) : (stC l)[i]? = some (.string l[i]) := by
  unfold stC
  rw [List.getElem?_map, List.getElem?_eq_getElem h]
  rfl

theorem row_s {w : World} {N : Nat} {a : Option Addr} {l : List ByteArray} (h : RowAt w N a (stC l)) (i : Nat) (hi : i < l.length) : ∃ b o, a = some ⟨b, o, none⟩ ∧ b < N ∧ w.cell? ⟨b, o + i, none⟩ = some (.string l[i]) := by
  obtain ⟨b, o, h1, h2, h3⟩ := h (fun e => by have := stC_at hi; rw [e] at this; simp at this)
  exact ⟨b, o, h1, h2, h3 _ _ (stC_at hi)⟩

theorem held_take (l : List ByteArray) (j : Nat) (h : j < l.length) : heldP (l.take (j + 1)) = heldP (l.take j) + 2 + l[j].size := by
  rw [List.take_succ_eq_append_getElem h, held_append]
  show _ + (2 + l[j].size + 0) = _
  omega
theorem frame_take (l : List ByteArray) (j : Nat) (h : j < l.length) : frameP (l.take (j + 1)) = frameP (l.take j) ++ wd l[j].size ++ l[j] := by
  rw [List.take_succ_eq_append_getElem h, frame_append]
  show _ ++ (wd l[j].size ++ l[j] ++ ⟨#[]⟩) = _
  rw [show wd l[j].size ++ l[j] ++ (⟨#[]⟩ : ByteArray) = wd l[j].size ++ l[j] from ByteArray.append_empty, ByteArray.append_assoc]
theorem held_take_le (l : List ByteArray) (j : Nat) : heldP (l.take j) ≤ heldP l := by
  conv => rhs; rw [← List.take_append_drop j l]
  rw [held_append]
  omega

set_option maxRecDepth 100000 in
set_option maxHeartbeats 2000000 in
theorem frame_s (l : List ByteArray) (a : Option Addr) (c N : Nat) (w : World) (hrow : RowAt w N a (stC l)) (hN : N ≤ w.heap.size) (hl : l.length ≤ 33554432) (hz : heldP l ≤ 67108864) :
    Calls Try.prog 59 #[.slice a l.length c] w fun r w' => ∃ s e, r = .returned (.tuple #[.string s, .int .i64 e]) ∧ FrmIs l s e ∧ Below w.heap.size w w' := by
  have HRow := hide hrow
  have HZ := hide (fun j (h : j < l.length) => held_take l j h)
  have HZ2 := hide (fun j => held_take_le l j)
  obtain ⟨i0, hi, hz0, hz1, hz2⟩ := info_parts Try.info5
  have Hi := hide hi
  have Hz0 := hide hz0
  have Hz1 := hide hz1
  have Hz2 := hide hz2
  clear hi hz0 hz1 hz2 hrow
  go_enter Try.func59, Try.ntmps59
  go_wp2_with fail
  go_loop [4] (fun i => ∃ j : Nat, j ≤ l.length ∧ i = .int .i64 j ∧ Hid (∀ k (h : k < l.length), k < j → l[k].size ≤ 65535)) (fun i => l.length - (intOf i).toNat)
  case atStart => exact ⟨0, Nat.zero_le _, rfl, hide fun k _ hk => by omega⟩
  case round =>
    obtain ⟨j, hj, rfl, HA⟩ := hrel
    by_cases cj : j < l.length
    · obtain ⟨b, o, rfl, hb, x0⟩ := row_s (unhide HRow) j cj
      by_cases cx : 65535 < l[j].size
      · have HX : Hid (∃ x, x ∈ l ∧ 65535 < x.size) := hide ⟨_, List.getElem_mem cj, cx⟩
        generalize l[j] = x at *
        go_wp2_with fail
        go_ret2
        exact ⟨_, _, rfl, .inl ⟨unhide HX, rfl, rfl⟩, Below.refl _ _⟩
      · have HA2 : Hid (∀ k (h : k < l.length), k < j + 1 → l[k].size ≤ 65535) := hide fun k hk hkj => by
          by_cases e : k = j
          · subst e; omega
          · exact unhide HA k hk (by omega)
        generalize l[j] = x at *
        go_wp2_with fail
        go_round
        case rel => exact ⟨j + 1, by omega, by go_num, HA2⟩
        case measure => simp [intOf]; omega
    · have ej : j = l.length := by omega
      subst ej
      have HAll : Hid (∀ x, x ∈ l → x.size ≤ 65535) := hide fun x hx => by
        obtain ⟨k, hk, rfl⟩ := List.mem_iff_getElem.1 hx
        exact unhide HA k hk hk
      clear HA
      go_wp2_with fail
      obtain ⟨M, hM⟩ : ∃ M, w.heap.size = M := ⟨_, rfl⟩
      rw [hM] at hN
      have HM := hide hM
      have hs0 : M ≤ w.heap.size := by omega
      clear hM
      go_loopg [5, 6] (l.length + 1) (fun g vb vi w' => ∃ (j n : Nat) (ab : Option Addr) (cb : Nat), vi = .int .i64 j ∧ j ≤ l.length ∧ g = l.length + 1 - j ∧ vb = .slice ab n cb ∧ n ≤ 67108864 ∧ Hid ((frameP (l.take j)).size = n) ∧ Hid (w'.ownsRow M 5 1 (.slice ab n cb) n (byteCells (frameP (l.take j)))) ∧ Hid (Below M w w') ∧ M ≤ w'.heap.size)
      case atStart => exact ⟨0, 0, none, 0, rfl, Nat.zero_le _, rfl, rfl, by omega, hide rfl, hide (World.ownsRow_nil _ _ _ _), hide (Below.refl _ _), hs0⟩
      case round =>
        obtain ⟨j, n, ab, cb, rfl, hj, rfl, rfl, hn, HS, HO, HB, hs⟩ := hrel
        by_cases cj : j < l.length
        · obtain ⟨b, o, rfl, hb, x0⟩ := row_s ((unhide HRow).below ((unhide HB).mono hN)) j cj
          have hx := unhide HAll _ (List.getElem_mem cj)
          have hz3 := unhide HZ j cj
          have hz4 := unhide HZ2 (j + 1)
          have hz5 := (frame_size (l.take j)).symm.trans (unhide HS)
          have hf := frame_take l j cj
          have HFT := hide hf
          clear hf
          generalize l[j] = x at *
          have hn2 : n + 2 + x.size ≤ 67108864 := by omega
          clear hz3 hz4 hz5
          go_wp2_with fail
          refine (word_any x.size _ (by omega)).mono ?_
          rintro r w1 ⟨rfl, hb1⟩
          have hbM := hb1.mono hs
          have x1 := (hb1.cell (p := ⟨b, o + j, none⟩) (by show b < _; omega)).trans x0
          have HO1 := hide ((unhide HO).kept (grown_below (row := none) hb1) (by
            cases e : (Value.slice ab n cb).ownBlock with
            | none => exact .inl rfl
            | some g => exact .inr (by simp)))
          have HB1 := hide ((unhide HB).trans hbM)
          have hs1 : M ≤ w1.heap.size := Nat.le_trans hs hb1.size
          have hw2 := wd_size x.size
          generalize hwd : wd x.size = y at *
          clear hb1 hbM x0 hwd
          go_upto_region 12 with (at_builtin; refine wpList_append_row _ rfl _ _ 105 9 rfl M 5 i0 (.int .u8 0) 1 1 Try.underlying105 (unhide Hi) (unhide Hz0) (unhide Hz1) (unhide Hz2) rfl (.slice ab n cb) n (byteCells (frameP (l.take j))) (by rfl) (unhide HO1) (.string y) y.size (byteCells y) (by rfl) (Src.ofString _ Try.underlying9 y) (by unfold maxLen; omega) (by omega) (by omega) ?_; intro a1 e1 w2 hown2 hgrow2 hat2)
          have hne : ∀ k, k < M → (Value.slice ab n cb).ownBlock ≠ some k := fun k hk he => by have := ((unhide HO1).lt k he).1; omega
          have hbM2 : Below M w1 w2 := ⟨hgrow2.os, hgrow2.tape, hgrow2.output, hgrow2.size, fun k hk => hgrow2.block k (by omega) fun e => hne k hk e.symm⟩
          have x2 := (hbM2.cell (p := ⟨b, o + j, none⟩) (by show b < _; omega)).trans x1
          have HO2 := hide hown2
          have HB2 := hide ((unhide HB1).trans hbM2)
          have hs2 : M ≤ w2.heap.size := Nat.le_trans hs1 hgrow2.size
          rw [hw2] at HO2
          clear hgrow2 hat2 hown2 hne hbM2 x1
          go_wp2_with (at_builtin; refine wpList_append_row _ rfl _ _ 105 9 rfl M 5 i0 (.int .u8 0) 1 1 Try.underlying105 (unhide Hi) (unhide Hz0) (unhide Hz1) (unhide Hz2) rfl (.slice a1 (n + 2) e1) (n + 2) _ (by rfl) (unhide HO2) (.string x) x.size (byteCells x) (by rfl) (Src.ofString _ Try.underlying9 x) (by unfold maxLen; omega) (by omega) (by omega) ?_; intro a3 e3 w3 hown3 hgrow3 hat3)
          go_roundg (l.length + 1 - (j + 1))
          case measure => omega
          case rel =>
            have hne : ∀ k, k < M → (Value.slice a1 (n + 2) e1).ownBlock ≠ some k := fun k hk he => by have := ((unhide HO2).lt k he).1; omega
            have hbM3 : Below M w2 w3 := ⟨hgrow3.os, hgrow3.tape, hgrow3.output, hgrow3.size, fun k hk => hgrow3.block k (by omega) fun e => hne k hk e.symm⟩
            refine ⟨j + 1, n + 2 + x.size, a3, e3, by go_num, by omega, rfl, rfl, hn2, hide ?_, hide ?_, hide ((unhide HB2).trans hbM3), Nat.le_trans hs2 hgrow3.size⟩
            · rw [unhide HFT, ByteArray.size_append, ByteArray.size_append, unhide HS, hw2]
            · rw [unhide HFT, byteCells_append, byteCells_append]
              exact hown3
        · have ej : j = l.length := by omega
          subst ej
          have HS2 := hide (run_bytes_row (P := Try.prog) wr 105 9 5 Try.underlying105 Try.underlying5 Try.underlying9 M (.slice ab n cb) (frameP l) (by have := unhide HO; rw [List.take_length] at this; have h2 := unhide HS; rw [List.take_length] at h2; rw [h2]; exact this))
          go_wp2_with fail
          rw [unhide HS2]
          go_wp2_with fail
          go_ret2
          exact ⟨_, _, rfl, .inr ⟨unhide HAll, rfl, rfl⟩, by rw [unhide HM]; exact unhide HB⟩

end Go.Proofs.Ytdhobdmhnocbgaa
