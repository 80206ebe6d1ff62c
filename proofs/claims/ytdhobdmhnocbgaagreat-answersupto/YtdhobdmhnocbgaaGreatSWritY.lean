/-
  Walks: the writer's small parts (word, full, bytes, find, learn).
-/
/-
  Walks: the writer's short names (find, learn, word, short, name).
-/
/-
  Walks: the writer's short names (short, name).
-/
import Derived.Test.YtdhobdmhnocbgaaGreatSNumb
import Derived.Test.YtdhobdmhnocbgaaGreatSReader
import Derived.Deep.LoopGhost
import Derived.Deep.DeepCutAuto
import Derived.Deep.RegionHeld3
import Derived.Test.YtdhobdmhnocbgaaGreatSRefD
namespace Go.Proofs.YtdhobdmhnocbgaaGreat
open Go.RowKit Zr

theorem Tryz.info5 : (Tryz.prog.info? 5).map (fun i => (i.zero, i.size, i.bytes)) = some (some (.int .u8 0), 1, 1) := by kernel_rfl
theorem Tryz.info187 : (Tryz.prog.info? 187).map (fun i => (i.zero, i.size, i.bytes)) = some (some (.agg #[.string ⟨#[]⟩, .int .i64 0]), 2, 24) := by kernel_rfl

/-- The cells of what is known. -/
def tcells (K : List (ByteArray × Nat)) : List Value := K.flatMap fun p => [.string p.1, .int .i64 p.2]

theorem tcells_append (K l : List (ByteArray × Nat)) : tcells (K ++ l) = tcells K ++ tcells l := by simp [tcells]

theorem tcells_succ (p : ByteArray × Nat) (l : List (ByteArray × Nat)) (k : Nat) : (tcells (p :: l))[k + 2]? = (tcells l)[k]? := by simp [tcells]

theorem tcells_at (l : List (ByteArray × Nat)) : ∀ (i : Nat) (h : i < l.length), (tcells l)[i * 2]? = some (.string l[i].1) ∧ (tcells l)[i * 2 + 1]? = some (.int .i64 l[i].2) := by
  induction l with
  | nil => intro i h; simp at h
  | cons p l ih =>
    intro i h
    cases i with
    | zero => exact ⟨rfl, rfl⟩
    | succ i =>
      have e0 : (i + 1) * 2 = i * 2 + 2 := by omega
      have e1 : (i + 1) * 2 + 1 = i * 2 + 1 + 2 := by omega
      rw [e1, e0, tcells_succ, tcells_succ]
      exact ih i (by simpa using h)

/-- The writer in block R has written the bytes B, and knows K. -/
def Wr (w : World) (N R : Nat) (B : ByteArray) (K : List (ByteArray × Nat)) : Prop :=
  ∃ vb ab cb vk ak ck, w.heap[R]? = some (.cells #[vb, vk] 137 (0, 0)) ∧ N ≤ R ∧ vb = .slice ab B.size cb ∧ vk = .slice ak K.length ck ∧ w.ownsRow N 5 1 vb B.size (byteCells B) ∧ w.ownsRow N 187 2 vk K.length (tcells K)

/-- Only blocks of the writer's kinds, from N on, may have turned. -/
structure WFrame (N : Nat) (w w' : World) : Prop where
  os : w'.os = w.os
  tape : w'.tape = w.tape
  output : w'.output = w.output
  size : w.heap.size ≤ w'.heap.size
  low : ∀ k, k < N → k < w.heap.size → w'.heap[k]? = w.heap[k]?
  kind : ∀ (k : Nat) (cs : Array Value) (t : TypeId) (fr : Nat × Nat), w.heap[k]? = some (Obj.cells cs t fr) → t ≠ 5 → t ≠ 187 → t ≠ 137 → w'.heap[k]? = some (Obj.cells cs t fr)

theorem WFrame.refl (N : Nat) (w : World) : WFrame N w w := ⟨rfl, rfl, rfl, Nat.le_refl _, fun _ _ _ => rfl, fun _ _ _ _ h _ _ _ => h⟩
theorem WFrame.trans {N : Nat} {a b c : World} (h : WFrame N a b) (k : WFrame N b c) : WFrame N a c :=
  ⟨k.os.trans h.os, k.tape.trans h.tape, k.output.trans h.output, Nat.le_trans h.size k.size, fun i h1 h2 => (k.low i h1 (Nat.lt_of_lt_of_le h2 h.size)).trans (h.low i h1 h2), fun i cs t fr h1 h2 h3 h4 => k.kind i cs t fr (h.kind i cs t fr h1 h2 h3 h4) h2 h3 h4⟩
theorem WFrame.below {N : Nat} {w w' : World} (h : WFrame N w w') (hN : N ≤ w.heap.size) : Below N w w' := ⟨h.os, h.tape, h.output, h.size, fun k hk => h.low k hk (Nat.lt_of_lt_of_le hk hN)⟩
theorem WFrame.of_below {N : Nat} {w w' : World} (h : Below w.heap.size w w') : WFrame N w w' :=
  ⟨h.os, h.tape, h.output, h.size, fun k _ hk => h.block k hk, fun k _ _ _ hk _ _ _ => (h.block k (blk_lt hk)).trans hk⟩
theorem WFrame.of_grown {N g : Nat} {w w' : World} (h : w.grownBy w' (some g)) (hg : N ≤ g) {cs : Array Value} {t : TypeId} {fr : Nat × Nat} (hk : w.heap[g]? = some (.cells cs t fr)) (ht : t = 5 ∨ t = 187 ∨ t = 137) : WFrame N w w' :=
  ⟨h.os, h.tape, h.output, h.size, fun k h1 h2 => h.block k h2 (fun e => by cases e; omega), fun k cs' t' fr' h1 h2 h3 h4 => (h.block k (blk_lt h1) (fun e => by
    cases e
    rw [hk] at h1
    cases h1
    rcases ht with h | h | h
    · exact h2 h
    · exact h3 h
    · exact h4 h)).trans h1⟩
theorem WFrame.of_none {N : Nat} {w w' : World} (h : w.grownBy w' none) : WFrame N w w' :=
  ⟨h.os, h.tape, h.output, h.size, fun k h1 h2 => h.block k h2 (by simp), fun k _ _ _ h1 _ _ _ => (h.block k (blk_lt h1) (by simp)).trans h1⟩

/-- An append onto an own row of one of these kinds. -/
theorem WFrame.of_append {N : Nat} {w w' : World} {e : TypeId} {size : Nat} {v : Value} {n : Nat} {xs : List Value} (hown : w.ownsRow N e size v n xs) (hg : w.grownBy w' v.ownBlock) (ht : e = 5 ∨ e = 187 ∨ e = 137) : WFrame N w w' := by
  rcases hown.2 with ⟨rfl, _⟩ | ⟨g, cap, cur, rfl, hbg, hgg, _⟩
  · exact WFrame.of_none hg
  · exact WFrame.of_grown hg hbg hgg ht

/-- A row of another kind stays. -/
theorem owns_kind {w w' : World} {N N' : Nat} {e e' : TypeId} {size size' : Nat} {v v' : Value} {n n' : Nat} {xs xs' : List Value} (hown : w.ownsRow N e size v n xs) (hg : w.grownBy w' v.ownBlock) (h : w.ownsRow N' e' size' v' n' xs') (hne : e ≠ e') : w'.ownsRow N' e' size' v' n' xs' := by
  refine h.kept hg ?_
  rcases hown.2 with ⟨rfl, _⟩ | ⟨g, cap, cur, rfl, hbg, hgg, _⟩
  · rcases h.2 with ⟨rfl, _⟩ | ⟨g', cap', cur', rfl, hbg', hgg', _⟩
    · exact .inl rfl
    · exact .inr (by simp [Value.ownBlock])
  · rcases h.2 with ⟨rfl, _⟩ | ⟨g', cap', cur', rfl, hbg', hgg', _⟩
    · exact .inl rfl
    · refine .inr (fun he => ?_)
      simp only [Value.ownBlock, Option.some.injEq] at he
      subst he
      rw [hgg] at hgg'
      cases hgg'
      exact hne rfl

theorem blk_kind {w w' : World} {N R : Nat} {e : TypeId} {size : Nat} {v : Value} {n : Nat} {xs : List Value} (hown : w.ownsRow N e size v n xs) (hg : w.grownBy w' v.ownBlock) {cs : Array Value} {t : TypeId} {fr : Nat × Nat} (hR : w.heap[R]? = some (.cells cs t fr)) (hne : e ≠ t) : w'.heap[R]? = some (.cells cs t fr) := by
  rw [hg.block R (blk_lt hR) (fun he => ?_), hR]
  rcases hown.2 with ⟨rfl, _⟩ | ⟨g, cap, cur, rfl, hbg, hgg, _⟩
  · simp [Value.ownBlock] at he
  · simp only [Value.ownBlock, Option.some.injEq] at he
    subst he
    rw [hgg] at hR
    cases hR
    exact hne rfl

theorem owns_set_kind {w : World} {N R : Nat} {e : TypeId} {size : Nat} {v : Value} {n : Nat} {xs : List Value} (hown : w.ownsRow N e size v n xs) {cs : Array Value} {t : TypeId} {fr : Nat × Nat} (hR : w.heap[R]? = some (.cells cs t fr)) (hne : e ≠ t) (j : Nat) (u : Value) : (w.setCell ⟨R, j, none⟩ u).ownsRow N e size v n xs := by
  refine hown.kept (grown_set w R j u) ?_
  rcases hown.2 with ⟨rfl, _⟩ | ⟨g, cap, cur, rfl, hbg, hgg, _⟩
  · exact .inl rfl
  · refine .inr (fun he => ?_)
    simp only [Value.ownBlock, Option.some.injEq] at he
    subst he
    rw [hgg] at hR
    cases hR
    exact hne rfl

theorem wr_cells {w : World} {R : Nat} {vb vk : Value} (h : w.heap[R]? = some (.cells #[vb, vk] 137 (0, 0))) :
    w.cell? ⟨R, 0, none⟩ = some vb ∧ w.cell? ⟨R, 1, none⟩ = some vk ∧ w.frozen? ⟨R, 0, none⟩ = false ∧ w.frozen? ⟨R, 1, none⟩ = false := by
  refine ⟨?_, ?_, frozen_of_blk h _, frozen_of_blk h _⟩ <;> (rw [cell_of_blk h]; rfl)

theorem Wr.lt {w : World} {N R : Nat} {B : ByteArray} {K : List (ByteArray × Nat)} (h : Wr w N R B K) : R < w.heap.size := by
  obtain ⟨vb, ab, cb, vk, ak, ck, hR, _⟩ := h
  exact blk_lt hR

theorem Wr.below {w w' : World} {N R : Nat} {B : ByteArray} {K : List (ByteArray × Nat)} (h : Wr w N R B K) (hb : Below w.heap.size w w') : Wr w' N R B K := by
  obtain ⟨vb, ab, cb, vk, ak, ck, hR, hN, e1, e2, o1, o2⟩ := h
  have hg : w.grownBy w' none := grown_below hb
  refine ⟨vb, ab, cb, vk, ak, ck, (hb.block R (blk_lt hR)).trans hR, hN, e1, e2, o1.kept hg ?_, o2.kept hg ?_⟩
  · cases h : vb.ownBlock with
    | none => exact .inl rfl
    | some g => exact .inr (by simp)
  · cases h : vk.ownBlock with
    | none => exact .inl rfl
    | some g => exact .inr (by simp)

theorem byteCells_append (a b : ByteArray) : byteCells (a ++ b) = byteCells a ++ byteCells b := by
  simp [byteCells, ByteArray.data_append]

set_option maxHeartbeats 400000 in
theorem full_w (N R : Nat) (B : ByteArray) (K : List (ByteArray × Nat)) (w : World) (h : Wr w N R B K) (hB : B.size ≤ 400000) :
    Calls Tryz.prog 101 #[.pointer (some ⟨R, 0, none⟩)] w fun e w' => e = .returned (.bool (decide (65535 < B.size))) ∧ w' = w := by
  obtain ⟨vb, ab, cb, vk, ak, ck, hR, hN, rfl, rfl, o1, o2⟩ := h
  obtain ⟨c0, c1, z0, z1⟩ := wr_cells hR
  clear hR o1 o2
  go_enter Tryz.func101, Tryz.ntmps101
  go_wp2_with fail
  go_ret
  exact ⟨ret_bool (by rw [Bool.eq_iff_iff]; simp; omega), rfl⟩

set_option maxRecDepth 100000 in
set_option maxHeartbeats 400000 in
theorem bytes_w (N R : Nat) (B : ByteArray) (K : List (ByteArray × Nat)) (s : ByteArray) (w : World) (h : Wr w N R B K) (hB : B.size ≤ 400000) (hs : s.size ≤ 400000) :
    Calls Tryz.prog 152 #[.pointer (some ⟨R, 0, none⟩), .string s] w fun e w' => e = .returned (.tuple #[]) ∧ Wr w' N R (B ++ s) K ∧ WFrame N w w' := by
  obtain ⟨vb, ab, cb, vk, ak, ck, hR, hN, rfl, rfl, o1, o2⟩ := h
  obtain ⟨c0, c1, z0, z1⟩ := wr_cells hR
  have HR := hide hR
  have hlt := blk_lt hR
  obtain ⟨i0, hi, hz0, hz1, hz2⟩ := info_parts Tryz.info5
  have Hi := hide hi
  have Hz0 := hide hz0
  have Hz1 := hide hz1
  have Hz2 := hide hz2
  have O1 := hide o1
  have O2 := hide o2
  clear hi hz0 hz1 hz2 hR o1 o2
  go_enter Tryz.func152, Tryz.ntmps152
  go_wp2_with (at_builtin; refine wpList_append_row _ rfl _ _ 96 9 rfl N 5 i0 (.int .u8 0) 1 1 Tryz.underlying96 (unhide Hi) (unhide Hz0) (unhide Hz1) (unhide Hz2) rfl (.slice ab B.size cb) B.size (byteCells B) (by rfl) (unhide O1) (.string s) s.size (byteCells s) (by rfl) (Src.ofString _ Tryz.underlying9 s) (by unfold maxLen; omega) (by omega) (by omega) ?_; intro a1 e1 w1 hown1 hgrow1 hat1; have hR1 := blk_kind (unhide O1) hgrow1 (unhide HR) (by decide); have hO2 := owns_kind (unhide O1) hgrow1 (unhide O2) (by decide); have hfr := WFrame.of_append (unhide O1) hgrow1 (.inl rfl); obtain ⟨d0, d1, y0, y1⟩ := wr_cells hR1; have HR1 := hide hR1; have HO2 := hide hO2; have HF := hide hfr; have HO1 := hide hown1; have HG := hide hgrow1; clear c0 c1 z0 z1 hR1 hO2 hfr hown1 hgrow1 hat1)
  go_end0
  refine ⟨rfl, ?_, (unhide HF).trans (WFrame.of_grown (grown_set _ R 0 _) hN (unhide HR1) (.inr (.inr rfl)))⟩
  refine ⟨_, a1, e1, _, ak, ck, (blk_set (unhide HR1) 0 _).trans rfl, hN, by rw [ByteArray.size_append], rfl, ?_, ?_⟩
  · rw [byteCells_append, ByteArray.size_append]
    exact owns_set_kind (unhide HO1) (unhide HR1) (by decide) 0 _
  · exact owns_set_kind (unhide HO2) (unhide HR1) (by decide) 0 _

end Go.Proofs.YtdhobdmhnocbgaaGreat

namespace Go.Proofs.YtdhobdmhnocbgaaGreat
open Go.RowKit Zr

/-- What find answers. -/
def foundI (o : Option Nat) : Int := match o with
  | some h => h
  | none => -1

set_option maxHeartbeats 1000000 in
theorem find_w (N R : Nat) (B : ByteArray) (K : List (ByteArray × Nat)) (s : ByteArray) (w : World) (h : Wr w N R B K) (hK : K.length ≤ 400000) :
    Calls Tryz.prog 173 #[.pointer (some ⟨R, 0, none⟩), .string s] w fun e w' => e = .returned (.int .i64 (foundI (findK K s))) ∧ w' = w := by
  obtain ⟨vb, ab, cb, vk, ak, ck, hR, hN, rfl, rfl, o1, o2⟩ := h
  obtain ⟨c0, c1, z0, z1⟩ := wr_cells hR
  have O2 := hide o2
  clear hR o1 o2
  obtain ⟨v, hv⟩ : ∃ v, foundI (findK K s) = v := ⟨_, rfl⟩
  rw [hv]
  have HV := hide hv
  clear hv
  go_enter Tryz.func173, Tryz.ntmps173
  go_wp2_with fail
  go_loop [5] (fun i => ∃ j : Nat, j ≤ K.length ∧ i = .int .i64 j ∧ Hid (∀ k (hk : k < K.length), k < j → K[k].1 ≠ s)) (fun i => K.length - (intOf i).toNat)
  case atStart => exact ⟨0, Nat.zero_le _, rfl, fun k _ hk => by omega⟩
  case round =>
    obtain ⟨j, hj, rfl, hno⟩ := hrel
    by_cases cj : j < K.length
    · obtain ⟨g, rfl, _, _, hcap⟩ := owns_form (unhide O2) (by omega)
      obtain ⟨q0, q1⟩ := tcells_at K j cj
      have x0 := owns_cell (unhide O2) _ _ q0
      have x1 := owns_cell (unhide O2) _ _ q1
      clear q0 q1
      by_cases ce : K[j].1 = s
      · have hV := unhide HV
        rw [findK_at K s j cj (fun k hk => unhide hno k (by omega) hk) ce] at hV
        have hV' : (K[j].2 : Int) = v := hV
        have he : (K[j].1.toList == s.toList) = true := by rw [bytes_eqb]; simp [ce]
        have HV2 := hide hV'
        clear hV hV' ce
        generalize K[j].1 = kn at *
        generalize K[j].2 = kh at *
        go_wp2_with fail
        go_ret
        exact ⟨by rw [unhide HV2]; rfl, rfl⟩
      · have he : (K[j].1.toList == s.toList) = false := by rw [bytes_eqb]; simp [ce]
        have hno2 : Hid (∀ k (hk : k < K.length), k < j + 1 → K[k].1 ≠ s) := fun k hk hkj => by
          by_cases hkk : k = j
          · subst hkk; exact ce
          · exact unhide hno k hk (by omega)
        clear ce
        generalize K[j].1 = kn at *
        generalize K[j].2 = kh at *
        go_wp2_with fail
        go_round
        case rel => exact ⟨j + 1, by omega, by go_num, hno2⟩
        case measure => simp [intOf]; omega
    · have hV := unhide HV
      rw [findK_none K s (fun k hk => unhide hno k hk (by omega))] at hV
      have HV2 : Hid ((-1 : Int) = v) := hV
      clear hV
      go_wp2_with fail
      go_ret
      exact ⟨by rw [← unhide HV2]; rfl, rfl⟩

theorem cell_two_new (w : World) (x0 x1 : Value) (t : TypeId) (B : Nat) (hB : B = w.heap.size) : ∀ j u, [x0, x1][j]? = some u → (w.alloc (.cells #[x0, x1] t)).cell? ((⟨B, 0, none⟩ : Addr).add j) = some u := by
  subst hB
  exact World.news_of_block (cs := #[x0, x1]) (heap_alloc_new w _)

set_option maxRecDepth 100000 in
set_option maxHeartbeats 1000000 in
theorem learn_w (N R : Nat) (B : ByteArray) (K : List (ByteArray × Nat)) (s : ByteArray) (p : Nat) (w : World) (h : Wr w N R B K) (hK : K.length ≤ 400000) (hp : p ≤ 4000000) :
    Calls Tryz.prog 174 #[.pointer (some ⟨R, 0, none⟩), .string s, .int .i64 p] w fun e w' => e = .returned (.tuple #[]) ∧ Wr w' N R B (K ++ learn1 s p) ∧ WFrame N w w' := by
  by_cases cp : p ≤ 16383
  · have hl : learn1 s p = [(s, p)] := by unfold learn1; rw [if_pos cp]
    rw [hl]
    clear hl
    obtain ⟨vb, ab, cb, vk, ak, ck, hR, hN, rfl, rfl, o1, o2⟩ := h
    obtain ⟨c0, c1, z0, z1⟩ := wr_cells hR
    have HR := hide hR
    have hlt := blk_lt hR
    obtain ⟨i0, hi, hz0, hz1, hz2⟩ := info_parts Tryz.info187
    have Hi := hide hi
    have Hz0 := hide hz0
    have Hz1 := hide hz1
    have Hz2 := hide hz2
    have O1 := hide o1
    have O2 := hide o2
    clear hi hz0 hz1 hz2 hR o1 o2
    go_enter Tryz.func174, Tryz.ntmps174
    go_wp2_with (at_builtin; refine wpList_append_row _ rfl _ _ 135 135 rfl N 187 i0 (.agg #[.string ⟨#[]⟩, .int .i64 0]) 2 24 Tryz.underlying135 (unhide Hi) (unhide Hz0) (unhide Hz1) (unhide Hz2) rfl (.slice ak K.length ck) K.length (tcells K) (by rfl) ((unhide O2).alloc _) (.slice (some ⟨w.heap.size, 0, none⟩) 1 1) 1 [.string s, .int .i64 p] (by rfl) (Src.ofSlice _ Tryz.underlying135 ⟨w.heap.size, 0, none⟩ 1 1 _ rfl (cell_two_new _ _ _ _ _ rfl) (fun x hx => by simp at hx; rcases hx with rfl | rfl <;> rfl)) (by unfold maxLen; omega) (by omega) (by simp; omega) ?_; intro a1 e1 w1 hown1 hgrow1 hat1; have hRa := (heap_alloc_old w (.cells #[.string s, .int .i64 p] 187) hlt).trans (unhide HR); have hR1 := blk_kind ((unhide O2).alloc _) hgrow1 hRa (by decide); have hO1 := owns_kind ((unhide O2).alloc _) hgrow1 ((unhide O1).alloc _) (by decide); have hfr := WFrame.of_append ((unhide O2).alloc _) hgrow1 (.inr (.inl rfl)); obtain ⟨d0, d1, y0, y1⟩ := wr_cells hR1; have HR1 := hide hR1; have HO1 := hide hO1; have HF := hide hfr; have HO2 := hide hown1; clear c0 c1 z0 z1 hR1 hO1 hfr hown1 hgrow1 hat1 hRa)
    go_end0
    refine ⟨rfl, ?_, ((WFrame.of_below ((Below.refl _ _).alloc (Nat.le_refl _) _)).trans (unhide HF)).trans (WFrame.of_grown (grown_set _ R 1 _) hN (unhide HR1) (.inr (.inr rfl)))⟩
    refine ⟨_, ab, cb, _, a1, e1, (blk_set (unhide HR1) 1 _).trans rfl, hN, rfl, by simp, ?_, ?_⟩
    · exact owns_set_kind (unhide HO1) (unhide HR1) (by decide) 1 _
    · rw [tcells_append, List.length_append]
      exact owns_set_kind (unhide HO2) (unhide HR1) (by decide) 1 _
  · have hl : learn1 s p = [] := by unfold learn1; rw [if_neg cp]
    rw [hl, List.append_nil]
    have H := hide h
    clear h hl
    go_enter Tryz.func174, Tryz.ntmps174
    go_wp2_with fail
    go_end0
    exact ⟨rfl, unhide H, WFrame.refl _ _⟩

set_option maxHeartbeats 400000 in
theorem word_w (N R : Nat) (B : ByteArray) (K : List (ByteArray × Nat)) (n : Nat) (w : World) (h : Wr w N R B K) (hB : B.size ≤ 399998) (hn : n < 65536) :
    Calls Tryz.prog 130 #[.pointer (some ⟨R, 0, none⟩), .int .i64 n] w fun e w' => e = .returned (.tuple #[]) ∧ Wr w' N R (B ++ wd n) K ∧ WFrame N w w' := by
  have H := hide h
  clear h
  go_enter Tryz.func130, Tryz.ntmps130
  go_wp2_with fail
  refine (word_any n _ hn).mono ?_
  rintro e w1 ⟨rfl, hb1⟩
  have hz := wd_size n
  have Hz := hide hz
  clear hz
  obtain ⟨s, hs⟩ : ∃ s, wd n = s := ⟨_, rfl⟩
  rw [hs] at Hz ⊢
  have Hs := hide hs
  clear hs
  go_wp2_with fail
  refine (bytes_w N R B K s _ ((unhide H).below hb1) (by omega) (by rw [unhide Hz]; omega)).mono ?_
  rintro e w2 ⟨rfl, h2, h3⟩
  have H2 := hide h2
  have H3 := hide h3
  clear h2 h3
  go_wp2_with fail
  go_end0
  exact ⟨rfl, by rw [unhide Hs]; exact unhide H2, (WFrame.of_below hb1).trans (unhide H3)⟩

end Go.Proofs.YtdhobdmhnocbgaaGreat

namespace Go.Proofs.YtdhobdmhnocbgaaGreat
open Go.RowKit Zr

/-- What is written has at least as many bytes as tails become known. -/
theorem shF_len (K : List (ByteArray × Nat)) (s : ByteArray) (p : Nat) : ∀ f k, (shF K s p f k).2.length ≤ (shF K s p f k).1.size ∧ (shF K s p f k).1.size ≤ s.size - k + 1 := by
  intro f
  induction f with
  | zero => intro k; exact ⟨Nat.le_refl _, Nat.zero_le _⟩
  | succ f ih =>
    intro k
    rw [shF]
    by_cases c : s.size < k + 2
    · rw [if_pos c]
      exact ⟨Nat.zero_le _, by rw [ByteArray.size_extract]; omega⟩
    · rw [if_neg c]
      cases findK K (s.extract k s.size) with
      | some tgt => exact ⟨Nat.zero_le _, by show (wd _).size ≤ _; rw [wd_size]; omega⟩
      | none =>
        have := ih (k + 1 + bt s k)
        have hl : (learn1 (s.extract k s.size) (p + k)).length ≤ 1 := by unfold learn1; split <;> simp
        have he : (s.extract k (k + 1 + bt s k)).size = min (k + 1 + bt s k) s.size - k := by rw [ByteArray.size_extract]
        simp only [List.length_append, ByteArray.size_append, he]
        have hb := bt_lt s k
        omega

theorem short_len (K : List (ByteArray × Nat)) (s : ByteArray) (p : Nat) : (short K s p).2.length ≤ (short K s p).1.size ∧ (short K s p).1.size ≤ s.size + 1 := shF_len K s p _ 0

/-- Places that a pointer can name. -/
def KOk (K : List (ByteArray × Nat)) : Prop := ∀ q, q ∈ K → q.2 ≤ 16383

theorem KOk.nil : KOk [] := fun q h => by simp at h
theorem learn1_ok (s : ByteArray) (p : Nat) : KOk (learn1 s p) := fun q h => by
  unfold learn1 at h
  split at h
  · simp at h; subst h; assumption
  · simp at h
theorem KOk.append {K l : List (ByteArray × Nat)} (h : KOk K) (h2 : KOk l) : KOk (K ++ l) := fun q hq => by
  rcases List.mem_append.1 hq with h1 | h1
  · exact h q h1
  · exact h2 q h1
theorem shF_ok (K : List (ByteArray × Nat)) (s : ByteArray) (p : Nat) : ∀ f k, KOk (shF K s p f k).2 := by
  intro f
  induction f with
  | zero => intro k; exact KOk.nil
  | succ f ih =>
    intro k
    rw [shF]
    split
    · exact KOk.nil
    · split
      · exact KOk.nil
      · exact (learn1_ok _ _).append (ih _)
theorem short_ok (K : List (ByteArray × Nat)) (s : ByteArray) (p : Nat) : KOk (short K s p).2 := shF_ok K s p _ 0

theorem shF_end (K : List (ByteArray × Nat)) (s : ByteArray) (p f k : Nat) (hf : s.size < k + f) (hk : k ≤ s.size) (c : s.size < k + 2) : shF K s p f k = (s.extract k s.size, []) := by
  cases f with
  | zero => omega
  | succ f => rw [shF, if_pos c]
theorem shF_some (K : List (ByteArray × Nat)) (s : ByteArray) (p f k tgt : Nat) (c : ¬ s.size < k + 2) (h : findK K (s.extract k s.size) = some tgt) : shF K s p (f + 1) k = (wd (49152 + tgt), []) := by
  rw [shF, if_neg c, h]
theorem shF_none (K : List (ByteArray × Nat)) (s : ByteArray) (p f k : Nat) (c : ¬ s.size < k + 2) (h : findK K (s.extract k s.size) = none) :
    shF K s p (f + 1) k = (s.extract k (k + 1 + bt s k) ++ (shF K s p f (k + 1 + bt s k)).1, learn1 (s.extract k s.size) (p + k) ++ (shF K s p f (k + 1 + bt s k)).2) := by
  rw [shF, if_neg c, h]

/-- What is behind a label of a name. -/
theorem tl_step {s : ByteArray} {k : Nat} (h : Tl s k) (c : ¬ s.size < k + 2) : 1 ≤ bt s k ∧ bt s k ≤ 63 ∧ k + 2 + bt s k ≤ s.size ∧ Tl s (k + 1 + bt s k) := by
  cases h with
  | root _ h1 h2 => omega
  | lab _ h1 h2 h3 => have := h3.lt; exact ⟨h1, h2, by omega, h3⟩

set_option maxRecDepth 100000 in
set_option maxHeartbeats 2000000 in
theorem short_w (N R : Nat) (B : ByteArray) (K : List (ByteArray × Nat)) (s : ByteArray) (p : Nat) (w : World) (h : Wr w N R B K) (hK : K.length ≤ 300000) (hO : KOk K) (hp : p ≤ 2000000) (ht : Tl s 0) (hs : s.size ≤ 255) :
    Calls Tryz.prog 168 #[.pointer (some ⟨R, 0, none⟩), .string s, .int .i64 p] w fun e w' => e = .returned (.string (short K s p).1) ∧ Wr w' N R B (K ++ (short K s p).2) ∧ WFrame N w w' := by
  have hlt := h.lt
  have H := hide h
  have HO := hide hO
  have HT := hide ht
  clear h hO ht
  obtain ⟨r, hr⟩ : ∃ r, short K s p = r := ⟨_, rfl⟩
  rw [hr]
  have HR : Hid (shF K s p (s.size + 1) 0 = r) := hr
  clear hr
  go_enter Tryz.func168, Tryz.ntmps168
  go_wp2_with fail
  go_loopg [7] (s.size + 1) (fun g a w' => ∃ (k : Nat) (own : List (ByteArray × Nat)), a = .int .i64 k ∧ s.size < k + g ∧ k ≤ s.size ∧ Hid (Tl s k) ∧ own.length ≤ k ∧ Hid (Wr w' N R B (K ++ own)) ∧ Hid (WFrame N w w') ∧ Hid (∀ q, q ∈ own → s.size - k < q.1.size) ∧ ∃ f, s.size < k + f ∧ Hid (r = (s.extract 0 k ++ (shF K s p f k).1, own ++ (shF K s p f k).2)))
  case atStart => exact ⟨0, [], rfl, by omega, by omega, HT, Nat.le_refl _, by rw [List.append_nil]; exact H, WFrame.refl _ _, fun q hq => by simp at hq, s.size + 1, by omega, by rw [extract_self, empty_append, List.nil_append]; exact (unhide HR).symm⟩
  case round =>
    obtain ⟨k, own, rfl, hg, hks, htk, hol, hW, hF, hown, f, hf, hres⟩ := hrel
    have hWlt := (unhide hW).lt
    by_cases c : s.size < k + 2
    · have hr2 := unhide hres
      rw [shF_end K s p f k hf hks c] at hr2
      simp only [List.append_nil] at hr2
      rw [extract_join s 0 k s.size (Nat.zero_le _) hks (Nat.le_refl _), extract_all] at hr2
      subst hr2
      clear hres HR
      go_wp2_with fail
      refine (has_no _ _ _ _ (by omega) (by omega) (by omega) (by omega) (by omega)).mono ?_
      rintro e w' ⟨rfl, rfl⟩
      go_wp2_with fail
      go_ret
      exact ⟨rfl, unhide hW, unhide hF⟩
    · obtain ⟨t1, t2, t3, t4⟩ := tl_step (unhide htk) c
      obtain ⟨f, rfl⟩ : ∃ g, f = g + 1 := ⟨f - 1, by omega⟩
      have hse : (s.extract k s.size).size = s.size - k := by rw [ByteArray.size_extract]; omega
      have hfk : findK (K ++ own) (s.extract k s.size) = findK K (s.extract k s.size) := findK_append _ _ _ (fun q hq e => by have := unhide hown q hq; rw [e, hse] at this; omega)
      have hlen : (K ++ own).length ≤ 400000 := by rw [List.length_append]; omega
      have hg1 := bt_get s k (by omega)
      cases hfd : findK K (s.extract k s.size) with
      | some tgt =>
        have hr2 := unhide hres
        rw [shF_some K s p f k tgt c hfd] at hr2
        have hto := unhide HO _ (findK_mem K _ tgt hfd)
        simp only at hto
        rw [hfd] at hfk
        have HFK := hide hfk
        have HR2 := hide hr2
        have HL := hide hlen
        clear hfk hr2 hlen hfd hres HR
        go_wp2_with fail
        refine (has_yes _ _ _ _ (by omega) (by omega) (by omega) (by omega)).mono ?_
        rintro e w' ⟨rfl, rfl⟩
        go_wp2_with fail
        refine (find_w N R B (K ++ own) _ _ (unhide hW) (unhide HL)).mono ?_
        rw [unhide HFK]
        rintro e w' ⟨rfl, rfl⟩
        simp only [foundI]
        go_wp2_with fail
        obtain ⟨z, hz⟩ : ∃ z, wd (49152 + tgt) = z := ⟨_, rfl⟩
        have hwz := wd_size (49152 + tgt)
        have Key : Hid (∀ w, Calls Tryz.prog 108 #[.int .i64 (IntKind.i64.wrap (49152 + (tgt : Int)))] w fun e w' => e = .returned (.string z) ∧ Below w.heap.size w w') := fun w => by rw [← hz, IntWalk.i64_in _ (by omega)]; exact word_at _ _ w (by omega) (by omega)
        rw [hz] at hwz HR2
        clear hz
        have he0 : (s.extract 0 k).size ≤ 255 := by rw [ByteArray.size_extract]; omega
        go_region_with (first | (go_at_call 108; refine (unhide Key _).mono ?_; rintro e w1 ⟨rfl, hb1⟩))
        all_goals go_wp2_with fail
        all_goals go_ret
        all_goals
          have hb2 := below_undrew hb1
          rw [unhide HR2]
          refine ⟨rfl, ?_, (unhide hF).trans (WFrame.of_below hb2)⟩
          rw [List.append_nil]
          exact (unhide hW).below hb2
      | none =>
        have hr2 := unhide hres
        rw [shF_none K s p f k c hfd] at hr2
        rw [hfd] at hfk
        have HFK := hide hfk
        have HR2 := hide hr2
        have HL := hide hlen
        clear hfk hr2 hlen hfd hres HR
        go_wp2_with fail
        refine (has_yes _ _ _ _ (by omega) (by omega) (by omega) (by omega)).mono ?_
        rintro e w' ⟨rfl, rfl⟩
        go_wp2_with fail
        refine (find_w N R B (K ++ own) _ _ (unhide hW) (unhide HL)).mono ?_
        rw [unhide HFK]
        rintro e w' ⟨rfl, rfl⟩
        simp only [foundI]
        go_wp2_with fail
        refine (learn_w N R B (K ++ own) _ (p + k) _ (unhide hW) (unhide HL) (by omega)).mono ?_
        rintro e w1 ⟨rfl, hW1, hF1⟩
        have HW1 := hide hW1
        have HF1 := hide hF1
        clear hW1 hF1
        go_wp2_with fail
        have hl1 : (learn1 (s.extract k s.size) (p + k)).length ≤ 1 := by unfold learn1; split <;> simp
        go_roundg (gk - 1)
        case measure => omega
        case rel =>
          refine ⟨k + 1 + bt s k, own ++ learn1 (s.extract k s.size) (p + k), by go_num, by omega, by omega, t4, by rw [List.length_append]; omega, ?_, (unhide hF).trans (unhide HF1), ?_, f, by omega, ?_⟩
          · show Wr _ _ _ _ _
            rw [← List.append_assoc]
            exact unhide HW1
          · intro q hq
            rcases List.mem_append.1 hq with h1 | h1
            · have := unhide hown q h1; omega
            · unfold learn1 at h1
              split at h1
              · simp only [List.mem_singleton] at h1
                subst h1
                show _ < (s.extract k s.size).size
                omega
              · simp at h1
          · show _ = _
            rw [unhide HR2, ← append_assoc', extract_join s 0 k _ (Nat.zero_le _) (by omega) (by omega), List.append_assoc]

theorem tl_ok {s : ByteArray} (h : wholeB s = true) : Tl s 0 ∧ s.size ≤ 255 := (whole_iff s).1 h

set_option maxRecDepth 100000 in
set_option maxHeartbeats 1000000 in
theorem name_w (N R : Nat) (B : ByteArray) (K : List (ByteArray × Nat)) (s : ByteArray) (w : World) (h : Wr w N R B K) (hK : K.length ≤ 300000) (hO : KOk K) (hB : B.size ≤ 390000) (hs : wholeB s = true) :
    Calls Tryz.prog 153 #[.pointer (some ⟨R, 0, none⟩), .string s] w fun e w' => e = .returned (.tuple #[]) ∧ Wr w' N R (B ++ (short K s B.size).1) (K ++ (short K s B.size).2) ∧ WFrame N w w' := by
  obtain ⟨ht, h255⟩ := tl_ok hs
  have key := fun w (h : Wr w N R B K) => short_w N R B K s B.size w h hK hO (by omega) ht h255
  have hlen := (short_len K s B.size).2
  have Key := hide key
  clear key hO ht hs
  generalize short K s B.size = r at *
  obtain ⟨x, l⟩ := r
  simp only at hlen Key ⊢
  have H := hide h
  obtain ⟨vb, ab, cb, vk, ak, ck, hR, hN, rfl, rfl, o1, o2⟩ := h
  obtain ⟨c0, c1, z0, z1⟩ := wr_cells hR
  clear hR o1 o2
  go_enter Tryz.func153, Tryz.ntmps153
  go_wp2_with fail
  refine (unhide Key _ (unhide H)).mono ?_
  rintro e w1 ⟨rfl, h1, f1⟩
  have H1 := hide h1
  have F1 := hide f1
  clear h1 f1
  go_wp2_with fail
  refine (bytes_w N R B (K ++ l) x _ (unhide H1) (by omega) (by omega)).mono ?_
  rintro e w2 ⟨rfl, h2, f2⟩
  have H2 := hide h2
  have F2 := hide f2
  clear h2 f2
  go_wp2_with fail
  go_end0
  exact ⟨rfl, unhide H2, (unhide F1).trans (unhide F2)⟩

end Go.Proofs.YtdhobdmhnocbgaaGreat
