/-
  Walks: the writer's small parts (word, full, bytes, find, learn).
-/
/-
  Walks: which messages are well made (isWord, isName, isData, isRecord).
-/
/-
  Walks: which messages are well made (isRecord, areQuestions, areRecords, isMessage).
-/
/-
  Walks: messages as a stream (Frame); the calls of package zone.
-/
/-
  Walks: streams: the calls of package zone; zonekeep's helpers.
-/
import Derived.Test.YtdhobdmhnocbgaaDoorSStA
import Derived.Deep.LoopGhost
import Derived.Deep.DeepCutAuto
import Derived.Deep.RegionHeld3
import Derived.Test.YtdhobdmhnocbgaaDoorSMsgs
import Derived.Test.YtdhobdmhnocbgaaDoorSStB
import Derived.Test.YtdhobdmhnocbgaaDoorSRefD
namespace Go.Proofs.YtdhobdmhnocbgaaDoor
open Go.RowKit Zr

theorem Tryd.info5 : (Tryd.prog.info? 5).map (fun i => (i.zero, i.size, i.bytes)) = some (some (.int .u8 0), 1, 1) := by kernel_rfl
/-- The cells of what is known. -/
def tcells (K : List (ByteArray × Nat)) : List Value := K.flatMap fun p => [.string p.1, .int .i64 p.2]

/-- A row of another kind stays. -/
theorem owns_kind {w w' : World} {N N' : Nat} {e e' : TypeId} {size size' : Nat} {v v' : Value} {n n' : Nat} {xs xs' : List Value} (hown : w.ownsRow N e size v n xs) (hg : w.grownBy w' v.ownBlock) (h : w.ownsRow N' e' size' v' n' xs') (hne : e ≠ e') : w'.ownsRow N' e' size' v' n' xs' := by
  refine h.kept hg ?_
  rcases hown.2 with ⟨rfl, _⟩ | ⟨g, cap, cur, rfl, hbg, hgg, _⟩
  · rcases h.2 with ⟨rfl, _⟩ | ⟨g', cap', cur', rfl, hbg', hgg', _⟩
    · exact .inl rfl
    · exact .inr (by simp [Value.ownBlock])
  · rcases h.2 with ⟨rfl, _⟩ | ⟨g', cap', cur', rfl, hbg', hgg', _⟩
    · exact .inl rfl
    · refine .inr (fun he => ?_)
      simp only [Value.ownBlock, Option.some.injEq] at he
      subst he
      rw [hgg] at hgg'
      cases hgg'
      exact hne rfl

theorem blk_kind {w w' : World} {N R : Nat} {e : TypeId} {size : Nat} {v : Value} {n : Nat} {xs : List Value} (hown : w.ownsRow N e size v n xs) (hg : w.grownBy w' v.ownBlock) {cs : Array Value} {t : TypeId} {fr : Nat × Nat} (hR : w.heap[R]? = some (.cells cs t fr)) (hne : e ≠ t) : w'.heap[R]? = some (.cells cs t fr) := by
  rw [hg.block R (blk_lt hR) (fun he => ?_), hR]
  rcases hown.2 with ⟨rfl, _⟩ | ⟨g, cap, cur, rfl, hbg, hgg, _⟩
  · simp [Value.ownBlock] at he
  · simp only [Value.ownBlock, Option.some.injEq] at he
    subst he
    rw [hgg] at hR
    cases hR
    exact hne rfl

theorem owns_set_kind {w : World} {N R : Nat} {e : TypeId} {size : Nat} {v : Value} {n : Nat} {xs : List Value} (hown : w.ownsRow N e size v n xs) {cs : Array Value} {t : TypeId} {fr : Nat × Nat} (hR : w.heap[R]? = some (.cells cs t fr)) (hne : e ≠ t) (j : Nat) (u : Value) : (w.setCell ⟨R, j, none⟩ u).ownsRow N e size v n xs := by
  refine hown.kept (grown_set w R j u) ?_
  rcases hown.2 with ⟨rfl, _⟩ | ⟨g, cap, cur, rfl, hbg, hgg, _⟩
  · exact .inl rfl
  · refine .inr (fun he => ?_)
    simp only [Value.ownBlock, Option.some.injEq] at he
    subst he
    rw [hgg] at hR
    cases hR
    exact hne rfl

theorem byteCells_append (a b : ByteArray) : byteCells (a ++ b) = byteCells a ++ byteCells b := by
  simp [byteCells, ByteArray.data_append]

end Go.Proofs.YtdhobdmhnocbgaaDoor

namespace Go.Proofs.YtdhobdmhnocbgaaDoor
open Go.RowKit Zr

/-- A bool that tells whether something holds. -/
def BoolIs (P : Prop) (e : Ending) : Prop := ∃ b, e = .returned (.bool b) ∧ (b = true ↔ P)

end Go.Proofs.YtdhobdmhnocbgaaDoor

namespace Go.Proofs.YtdhobdmhnocbgaaDoor
open Go.RowKit Zr

def qValI (q : QI) : Value := .agg #[.string q.name, .int .i64 q.ty, .int .i64 q.cl]
def rValI (x : RI) : Value := .agg #[.string x.name, .int .i64 x.ty, .int .i64 x.cl, .int .i64 x.ttl, .string x.data]

/-- The cells of lists that are handed in. -/
def qcI (l : List QI) : List Value := l.flatMap fun q => [.string q.name, .int .i64 q.ty, .int .i64 q.cl]
def rcI (l : List RI) : List Value := l.flatMap fun x => [.string x.name, .int .i64 x.ty, .int .i64 x.cl, .int .i64 x.ttl, .string x.data]

/-- Cells that lie below the block N, from an address on. -/
def RowAt (w : World) (N : Nat) (a : Option Addr) (xs : List Value) : Prop :=
  xs ≠ [] → ∃ b o, a = some ⟨b, o, none⟩ ∧ b < N ∧ ∀ j u, xs[j]? = some u → w.cell? ⟨b, o + j, none⟩ = some u

theorem RowAt.below {w w' : World} {N : Nat} {a : Option Addr} {xs : List Value} (h : RowAt w N a xs) (hb : Below N w w') : RowAt w' N a xs := by
  intro hx
  obtain ⟨b, o, h1, h2, h3⟩ := h hx
  exact ⟨b, o, h1, h2, fun j u hu => (hb.cell (p := ⟨b, o + j, none⟩) h2).trans (h3 j u hu)⟩

theorem RowAt.mono {w : World} {N M : Nat} {a : Option Addr} {xs : List Value} (h : RowAt w N a xs) (hb : N ≤ M) : RowAt w M a xs := by
  intro hx
  obtain ⟨b, o, h1, h2, h3⟩ := h hx
  exact ⟨b, o, h1, by omega, h3⟩

def QSized (l : List QI) : Prop := ∀ i (h : i < l.length), l[i].name.size ≤ 281474976710656
def RSized (l : List RI) : Prop := ∀ i (h : i < l.length), l[i].name.size ≤ 281474976710656 ∧ l[i].data.size ≤ 281474976710656

end Go.Proofs.YtdhobdmhnocbgaaDoor

namespace Go.Proofs.YtdhobdmhnocbgaaDoor
open Go.RowKit Zr

/-- What Frame answers. -/
def FrmIs (l : List ByteArray) (s : ByteArray) (e : Int) : Prop :=
  (∃ x, x ∈ l ∧ 65535 < x.size) ∧ s = ⟨#[]⟩ ∧ e = 1 ∨ (∀ x, x ∈ l → x.size ≤ 65535) ∧ s = frameP l ∧ e = 0

theorem FrmIs.same {l : List ByteArray} {s t : ByteArray} {e f : Int} (h : FrmIs l s e) (k : FrmIs l t f) : s = t ∧ e = f := by
  rcases h with ⟨⟨x, hx, hx2⟩, h1, h2⟩ | ⟨h0, h1, h2⟩ <;> rcases k with ⟨⟨y, hy, hy2⟩, k1, k2⟩ | ⟨k0, k1, k2⟩
  · exact ⟨h1.trans k1.symm, h2.trans k2.symm⟩
  · exact absurd (k0 x hx) (by omega)
  · exact absurd (h0 y hy) (by omega)
  · exact ⟨h1.trans k1.symm, h2.trans k2.symm⟩

theorem stC_at {l : List ByteArray} {i : Nat} (h : i < l.length) : (stC l)[i]? = some (.string l[i]) := by
  unfold stC
  rw [List.getElem?_map, List.getElem?_eq_getElem h]
  rfl

theorem row_s {w : World} {N : Nat} {a : Option Addr} {l : List ByteArray} (h : RowAt w N a (stC l)) (i : Nat) (hi : i < l.length) : ∃ b o, a = some ⟨b, o, none⟩ ∧ b < N ∧ w.cell? ⟨b, o + i, none⟩ = some (.string l[i]) := by
  obtain ⟨b, o, h1, h2, h3⟩ := h (fun e => by have := stC_at hi; rw [e] at this; simp at this)
  exact ⟨b, o, h1, h2, h3 _ _ (stC_at hi)⟩

theorem held_take (l : List ByteArray) (j : Nat) (h : j < l.length) : heldP (l.take (j + 1)) = heldP (l.take j) + 2 + l[j].size := by
  rw [List.take_succ_eq_append_getElem h, held_append]
  show _ + (2 + l[j].size + 0) = _
  omega
theorem frame_take (l : List ByteArray) (j : Nat) (h : j < l.length) : frameP (l.take (j + 1)) = frameP (l.take j) ++ wd l[j].size ++ l[j] := by
  rw [List.take_succ_eq_append_getElem h, frame_append]
  show _ ++ (wd l[j].size ++ l[j] ++ ⟨#[]⟩) = _
  rw [show wd l[j].size ++ l[j] ++ (⟨#[]⟩ : ByteArray) = wd l[j].size ++ l[j] from ByteArray.append_empty, ByteArray.append_assoc]
theorem held_take_le (l : List ByteArray) (j : Nat) : heldP (l.take j) ≤ heldP l := by
  conv => rhs; rw [← List.take_append_drop j l]
  rw [held_append]
  omega

set_option maxRecDepth 100000 in
set_option maxHeartbeats 2000000 in
theorem frame_s (l : List ByteArray) (a : Option Addr) (c N : Nat) (w : World) (hrow : RowAt w N a (stC l)) (hN : N ≤ w.heap.size) (hl : l.length ≤ 33554432) (hz : heldP l ≤ 67108864) :
    Calls Tryd.prog 20 #[.slice a l.length c] w fun r w' => ∃ s e, r = .returned (.tuple #[.string s, .int .i64 e]) ∧ FrmIs l s e ∧ Below w.heap.size w w' := by
  have HRow := hide hrow
  have HZ := hide (fun j (h : j < l.length) => held_take l j h)
  have HZ2 := hide (fun j => held_take_le l j)
  obtain ⟨i0, hi, hz0, hz1, hz2⟩ := info_parts Tryd.info5
  have Hi := hide hi
  have Hz0 := hide hz0
  have Hz1 := hide hz1
  have Hz2 := hide hz2
  clear hi hz0 hz1 hz2 hrow
  go_enter Tryd.func20, Tryd.ntmps20
  go_wp2_with fail
  go_loop [4] (fun i => ∃ j : Nat, j ≤ l.length ∧ i = .int .i64 j ∧ Hid (∀ k (h : k < l.length), k < j → l[k].size ≤ 65535)) (fun i => l.length - (intOf i).toNat)
  case atStart => exact ⟨0, Nat.zero_le _, rfl, hide fun k _ hk => by omega⟩
  case round =>
    obtain ⟨j, hj, rfl, HA⟩ := hrel
    by_cases cj : j < l.length
    · obtain ⟨b, o, rfl, hb, x0⟩ := row_s (unhide HRow) j cj
      by_cases cx : 65535 < l[j].size
      · have HX : Hid (∃ x, x ∈ l ∧ 65535 < x.size) := hide ⟨_, List.getElem_mem cj, cx⟩
        generalize l[j] = x at *
        go_wp2_with fail
        go_ret2
        exact ⟨_, _, rfl, .inl ⟨unhide HX, rfl, rfl⟩, Below.refl _ _⟩
      · have HA2 : Hid (∀ k (h : k < l.length), k < j + 1 → l[k].size ≤ 65535) := hide fun k hk hkj => by
          by_cases e : k = j
          · subst e; omega
          · exact unhide HA k hk (by omega)
        generalize l[j] = x at *
        go_wp2_with fail
        go_round
        case rel => exact ⟨j + 1, by omega, by go_num, HA2⟩
        case measure => simp [intOf]; omega
    · have ej : j = l.length := by omega
      subst ej
      have HAll : Hid (∀ x, x ∈ l → x.size ≤ 65535) := hide fun x hx => by
        obtain ⟨k, hk, rfl⟩ := List.mem_iff_getElem.1 hx
        exact unhide HA k hk hk
      clear HA
      go_wp2_with fail
      obtain ⟨M, hM⟩ : ∃ M, w.heap.size = M := ⟨_, rfl⟩
      rw [hM] at hN
      have HM := hide hM
      have hs0 : M ≤ w.heap.size := by omega
      clear hM
      go_loopg [5, 6] (l.length + 1) (fun g vb vi w' => ∃ (j n : Nat) (ab : Option Addr) (cb : Nat), vi = .int .i64 j ∧ j ≤ l.length ∧ g = l.length + 1 - j ∧ vb = .slice ab n cb ∧ n ≤ 67108864 ∧ Hid ((frameP (l.take j)).size = n) ∧ Hid (w'.ownsRow M 5 1 (.slice ab n cb) n (byteCells (frameP (l.take j)))) ∧ Hid (Below M w w') ∧ M ≤ w'.heap.size)
      case atStart => exact ⟨0, 0, none, 0, rfl, Nat.zero_le _, rfl, rfl, by omega, hide rfl, hide (World.ownsRow_nil _ _ _ _), hide (Below.refl _ _), hs0⟩
      case round =>
        obtain ⟨j, n, ab, cb, rfl, hj, rfl, rfl, hn, HS, HO, HB, hs⟩ := hrel
        by_cases cj : j < l.length
        · obtain ⟨b, o, rfl, hb, x0⟩ := row_s ((unhide HRow).below ((unhide HB).mono hN)) j cj
          have hx := unhide HAll _ (List.getElem_mem cj)
          have hz3 := unhide HZ j cj
          have hz4 := unhide HZ2 (j + 1)
          have hz5 := (frame_size (l.take j)).symm.trans (unhide HS)
          have hf := frame_take l j cj
          have HFT := hide hf
          clear hf
          generalize l[j] = x at *
          have hn2 : n + 2 + x.size ≤ 67108864 := by omega
          clear hz3 hz4 hz5
          go_wp2_with fail
          refine (word_any x.size _ (by omega)).mono ?_
          rintro r w1 ⟨rfl, hb1⟩
          have hbM := hb1.mono hs
          have x1 := (hb1.cell (p := ⟨b, o + j, none⟩) (by show b < _; omega)).trans x0
          have HO1 := hide ((unhide HO).kept (grown_below (row := none) hb1) (by
            cases e : (Value.slice ab n cb).ownBlock with
            | none => exact .inl rfl
            | some g => exact .inr (by simp)))
          have HB1 := hide ((unhide HB).trans hbM)
          have hs1 : M ≤ w1.heap.size := Nat.le_trans hs hb1.size
          have hw2 := wd_size x.size
          generalize hwd : wd x.size = y at *
          clear hb1 hbM x0 hwd
          go_upto_region 12 with (at_builtin; refine wpList_append_row _ rfl _ _ 59 9 rfl M 5 i0 (.int .u8 0) 1 1 Tryd.underlying59 (unhide Hi) (unhide Hz0) (unhide Hz1) (unhide Hz2) rfl (.slice ab n cb) n (byteCells (frameP (l.take j))) (by rfl) (unhide HO1) (.string y) y.size (byteCells y) (by rfl) (Src.ofString _ Tryd.underlying9 y) (by unfold maxLen; omega) (by omega) (by omega) ?_; intro a1 e1 w2 hown2 hgrow2 hat2)
          have hne : ∀ k, k < M → (Value.slice ab n cb).ownBlock ≠ some k := fun k hk he => by have := ((unhide HO1).lt k he).1; omega
          have hbM2 : Below M w1 w2 := ⟨hgrow2.os, hgrow2.tape, hgrow2.output, hgrow2.size, fun k hk => hgrow2.block k (by omega) fun e => hne k hk e.symm⟩
          have x2 := (hbM2.cell (p := ⟨b, o + j, none⟩) (by show b < _; omega)).trans x1
          have HO2 := hide hown2
          have HB2 := hide ((unhide HB1).trans hbM2)
          have hs2 : M ≤ w2.heap.size := Nat.le_trans hs1 hgrow2.size
          rw [hw2] at HO2
          clear hgrow2 hat2 hown2 hne hbM2 x1
          go_wp2_with (at_builtin; refine wpList_append_row _ rfl _ _ 59 9 rfl M 5 i0 (.int .u8 0) 1 1 Tryd.underlying59 (unhide Hi) (unhide Hz0) (unhide Hz1) (unhide Hz2) rfl (.slice a1 (n + 2) e1) (n + 2) _ (by rfl) (unhide HO2) (.string x) x.size (byteCells x) (by rfl) (Src.ofString _ Tryd.underlying9 x) (by unfold maxLen; omega) (by omega) (by omega) ?_; intro a3 e3 w3 hown3 hgrow3 hat3)
          go_roundg (l.length + 1 - (j + 1))
          case measure => omega
          case rel =>
            have hne : ∀ k, k < M → (Value.slice a1 (n + 2) e1).ownBlock ≠ some k := fun k hk he => by have := ((unhide HO2).lt k he).1; omega
            have hbM3 : Below M w2 w3 := ⟨hgrow3.os, hgrow3.tape, hgrow3.output, hgrow3.size, fun k hk => hgrow3.block k (by omega) fun e => hne k hk e.symm⟩
            refine ⟨j + 1, n + 2 + x.size, a3, e3, by go_num, by omega, rfl, rfl, hn2, hide ?_, hide ?_, hide ((unhide HB2).trans hbM3), Nat.le_trans hs2 hgrow3.size⟩
            · rw [unhide HFT, ByteArray.size_append, ByteArray.size_append, unhide HS, hw2]
            · rw [unhide HFT, byteCells_append, byteCells_append]
              exact hown3
        · have ej : j = l.length := by omega
          subst ej
          have HS2 := hide (run_bytes_row (P := Tryd.prog) wr 59 9 5 Tryd.underlying59 Tryd.underlying5 Tryd.underlying9 M (.slice ab n cb) (frameP l) (by have := unhide HO; rw [List.take_length] at this; have h2 := unhide HS; rw [List.take_length] at h2; rw [h2]; exact this))
          go_wp2_with fail
          rw [unhide HS2]
          go_wp2_with fail
          go_ret2
          exact ⟨_, _, rfl, .inr ⟨unhide HAll, rfl, rfl⟩, by rw [unhide HM]; exact unhide HB⟩

end Go.Proofs.YtdhobdmhnocbgaaDoor

namespace Go.Proofs.YtdhobdmhnocbgaaDoor
open Go.RowKit Zr

set_option maxHeartbeats 400000 in
theorem frame_z (l : List ByteArray) (a : Option Addr) (c N : Nat) (w : World) (hrow : RowAt w N a (stC l)) (hN : N ≤ w.heap.size) (hl : l.length ≤ 33554432) (hz : heldP l ≤ 67108864) :
    Calls Tryd.prog 9 #[.slice a l.length c] w fun r w' => ∃ s e, r = .returned (.tuple #[.string s, .int .i64 e]) ∧ FrmIs l s e ∧ Below w.heap.size w w' := by
  have key := frame_s l a c N w hrow hN hl hz
  have K := hide key
  clear key hrow
  go_enter Tryd.func9, Tryd.ntmps9
  go_wp2_with fail
  refine (unhide K).mono ?_
  rintro r w1 ⟨s, e, rfl, h1, h2⟩
  have H1 := hide h1
  have H2 := hide h2
  clear h1 h2
  go_wp2_with fail
  go_ret2
  exact ⟨_, _, rfl, unhide H1, unhide H2⟩

theorem left_nil : leftP ⟨#[]⟩ = ⟨#[]⟩ := left_none fun h => by
  have h1 := size_ge ⟨#[]⟩
  unfold isWhl at h
  exact absurd (show sizeP ⟨#[]⟩ ≤ 0 from h) (by omega)

set_option maxHeartbeats 400000 in
theorem newFeed_z (w : World) : Calls Tryd.prog 12 #[] w fun r w' => r = .returned (.pointer (some ⟨w.heap.size, 0, none⟩)) ∧ w'.heap[w.heap.size]? = some (fdr ⟨#[]⟩ ⟨#[]⟩) ∧ w'.heap.size = w.heap.size + 1 ∧ Below w.heap.size w w' := by
  go_enter Tryd.func12, Tryd.ntmps12
  go_wp2_with fail
  go_ret
  exact ⟨rfl, heap_alloc_new _ _, by simp, (Below.refl _ _).alloc (Nat.le_refl _) _⟩

theorem fd_new {w : World} {R : Nat} (h : w.heap[R]? = some (fdr ⟨#[]⟩ ⟨#[]⟩)) : FdAt w R ⟨#[]⟩ := ⟨_, _, h, by rw [left_nil]; rfl⟩

set_option maxHeartbeats 400000 in
theorem push_z (R : Nat) (p chunk : ByteArray) (w : World) (h : FdAt w R p) (hz : p.size + chunk.size ≤ 67108864) :
    Calls Tryd.prog 15 #[.pointer (some ⟨R, 0, none⟩), .string chunk] w fun r w' => PushPost w R p chunk r w' := by
  have key := push_s R p chunk w h hz
  obtain ⟨e, l, hR, _⟩ := h
  have hlt := blk_lt hR
  have K := hide key
  clear key hR
  go_enter Tryd.func15, Tryd.ntmps15
  go_wp2_with fail
  refine (unhide K).mono ?_
  rintro r w1 ⟨L, a, c, h1, rfl, h2, h3, h4⟩
  have H : Hid (PushPost w R p chunk (.returned (.slice a L.length c)) w1) := hide ⟨L, a, c, h1, rfl, h2, h3, h4⟩
  clear h1 h2 h3 h4
  go_wp2_with fail
  go_ret
  exact unhide H

set_option maxHeartbeats 400000 in
theorem left_z (R : Nat) (p : ByteArray) (w : World) (h : FdAt w R p) (hz : p.size ≤ 67108864) :
    Calls Tryd.prog 17 #[.pointer (some ⟨R, 0, none⟩)] w fun r w' => r = .returned (.int .i64 ((cutP p 0).2 : Nat)) ∧ ∃ n, w' = w.drewN n := by
  obtain ⟨e, l, hR, hel⟩ := h
  have hs : e.size + l.size = (cutP p 0).2 := by rw [← left_size, ← hel, ByteArray.size_append]
  have hle := cut_le p 0
  have key := left_s R e l w hR (by omega)
  have hi : ((e.size : Int) + l.size) = ((cutP p 0).2 : Nat) := by omega
  rw [hi] at key
  have K := hide key
  obtain ⟨c0, c1, z0, z1⟩ := fdr_cells hR
  generalize (cutP p 0).2 = n at *
  clear key hR hel hs hi
  go_enter Tryd.func17, Tryd.ntmps17
  go_wp2_with fail
  refine (unhide K).mono ?_
  rintro r w1 ⟨rfl, m, rfl⟩
  go_wp2_with fail
  go_ret
  exact ⟨rfl, m, rfl⟩

end Go.Proofs.YtdhobdmhnocbgaaDoor
