/-
  Walks: the writer's small parts (word, full, bytes, find, learn).
-/
import Derived.Test.YtdhobdmhnocbgaaQNumb
import Derived.Test.YtdhobdmhnocbgaaQReader
import Derived.Deep.LoopGhost
import Derived.Deep.DeepCutAuto
import Derived.Deep.RegionHeld3
namespace Go.Proofs.Ytdhobdmhnocbgaa
open Go.RowKit Zr

theorem Try.info5 : (Try.prog.info? 5).map (fun i => (i.zero, i.size, i.bytes)) = some (some (.int .u8 0), 1, 1) := by kernel_rfl
theorem Try.info201 : (Try.prog.info? 201).map (fun i => (i.zero, i.size, i.bytes)) = some (some (.agg #[.string ⟨#[]⟩, .int .i64 0]), 2, 24) := by kernel_rfl

/-- The cells of what is known. -/
def tcells (K : List (ByteArray × Nat)) : List Value := K.flatMap fun p => [.string p.1, .int .i64 p.2]

theorem tcells_len (K : List (ByteArray × Nat)) : (tcells K).length = K.length * 2 := by
  induction K with
  | nil => rfl
  | cons p l ih => simp only [tcells, List.flatMap_cons, List.length_append, List.length_cons, List.length_nil] at ih ⊢; omega

theorem tcells_append (K l : List (ByteArray × Nat)) : tcells (K ++ l) = tcells K ++ tcells l := by simp [tcells]

theorem tcells_succ (p : ByteArray × Nat) (l : List (ByteArray × Nat)) (k : Nat) : (tcells (p :: l))[k + 2]? = (tcells l)[k]? := by simp [tcells]

theorem tcells_at (l : List (ByteArray × Nat)) : ∀ (i : Nat) (h : i < l.length), (tcells l)[i * 2]? = some (.string l[i].1) ∧ (tcells l)[i * 2 + 1]? = some (.int .i64 l[i].2) := by
  induction l with
  | nil => intro i h; simp at h
  | cons p l ih =>
    intro i h
    cases i with
    | zero => exact ⟨rfl, rfl⟩
    | succ i =>
      have e0 : (i + 1) * 2 = i * 2 + 2 := by omega
      have e1 : (i + 1) * 2 + 1 = i * 2 + 1 + 2 := by omega
      rw [e1, e0, tcells_succ, tcells_succ]
      exact ih i (by simpa using h)

/-- The writer in block R has written the bytes B, and knows K. -/
def Wr (w : World) (N R : Nat) (B : ByteArray) (K : List (ByteArray × Nat)) : Prop :=
  ∃ vb ab cb vk ak ck, w.heap[R]? = some (.cells #[vb, vk] 117 (0, 0)) ∧ N ≤ R ∧ vb = .slice ab B.size cb ∧ vk = .slice ak K.length ck ∧ w.ownsRow N 5 1 vb B.size (byteCells B) ∧ w.ownsRow N 201 2 vk K.length (tcells K)

/-- Only blocks of the writer's kinds, from N on, may have turned. -/
structure WFrame (N : Nat) (w w' : World) : Prop where
  os : w'.os = w.os
  tape : w'.tape = w.tape
  output : w'.output = w.output
  size : w.heap.size ≤ w'.heap.size
  low : ∀ k, k < N → k < w.heap.size → w'.heap[k]? = w.heap[k]?
  kind : ∀ (k : Nat) (cs : Array Value) (t : TypeId) (fr : Nat × Nat), w.heap[k]? = some (Obj.cells cs t fr) → t ≠ 5 → t ≠ 201 → t ≠ 117 → w'.heap[k]? = some (Obj.cells cs t fr)

theorem WFrame.refl (N : Nat) (w : World) : WFrame N w w := ⟨rfl, rfl, rfl, Nat.le_refl _, fun _ _ _ => rfl, fun _ _ _ _ h _ _ _ => h⟩
theorem WFrame.trans {N : Nat} {a b c : World} (h : WFrame N a b) (k : WFrame N b c) : WFrame N a c :=
  ⟨k.os.trans h.os, k.tape.trans h.tape, k.output.trans h.output, Nat.le_trans h.size k.size, fun i h1 h2 => (k.low i h1 (Nat.lt_of_lt_of_le h2 h.size)).trans (h.low i h1 h2), fun i cs t fr h1 h2 h3 h4 => k.kind i cs t fr (h.kind i cs t fr h1 h2 h3 h4) h2 h3 h4⟩
theorem WFrame.below {N : Nat} {w w' : World} (h : WFrame N w w') (hN : N ≤ w.heap.size) : Below N w w' := ⟨h.os, h.tape, h.output, h.size, fun k hk => h.low k hk (Nat.lt_of_lt_of_le hk hN)⟩
theorem WFrame.of_below {N : Nat} {w w' : World} (h : Below w.heap.size w w') : WFrame N w w' :=
  ⟨h.os, h.tape, h.output, h.size, fun k _ hk => h.block k hk, fun k _ _ _ hk _ _ _ => (h.block k (blk_lt hk)).trans hk⟩
theorem WFrame.of_grown {N g : Nat} {w w' : World} (h : w.grownBy w' (some g)) (hg : N ≤ g) {cs : Array Value} {t : TypeId} {fr : Nat × Nat} (hk : w.heap[g]? = some (.cells cs t fr)) (ht : t = 5 ∨ t = 201 ∨ t = 117) : WFrame N w w' :=
  ⟨h.os, h.tape, h.output, h.size, fun k h1 h2 => h.block k h2 (fun e => by cases e; omega), fun k cs' t' fr' h1 h2 h3 h4 => (h.block k (blk_lt h1) (fun e => by
    cases e
    rw [hk] at h1
    cases h1
    rcases ht with h | h | h
    · exact h2 h
    · exact h3 h
    · exact h4 h)).trans h1⟩
theorem WFrame.of_none {N : Nat} {w w' : World} (h : w.grownBy w' none) : WFrame N w w' :=
  ⟨h.os, h.tape, h.output, h.size, fun k h1 h2 => h.block k h2 (by simp), fun k _ _ _ h1 _ _ _ => (h.block k (blk_lt h1) (by simp)).trans h1⟩

/-- An append onto an own row of one of these kinds. -/
theorem WFrame.of_append {N : Nat} {w w' : World} {e : TypeId} {size : Nat} {v : Value} {n : Nat} {xs : List Value} (hown : w.ownsRow N e size v n xs) (hg : w.grownBy w' v.ownBlock) (ht : e = 5 ∨ e = 201 ∨ e = 117) : WFrame N w w' := by
  rcases hown.2 with ⟨rfl, _⟩ | ⟨g, cap, cur, rfl, hbg, hgg, _⟩
  · exact WFrame.of_none hg
  · exact WFrame.of_grown hg hbg hgg ht

/-- A row of another kind stays. -/
theorem owns_kind {w w' : World} {N N' : Nat} {e e' : TypeId} {size size' : Nat} {v v' : Value} {n n' : Nat} {xs xs' : List Value} (hown : w.ownsRow N e size v n xs) (hg : w.grownBy w' v.ownBlock) (h : w.ownsRow N' e' size' v' n' xs') (hne : e ≠ e') : w'.ownsRow N' e' size' v' n' xs' := by
  refine h.kept hg ?_
  rcases hown.2 with ⟨rfl, _⟩ | ⟨g, cap, cur, rfl, hbg, hgg, _⟩
  · rcases h.2 with ⟨rfl, _⟩ | ⟨g', cap', cur', rfl, hbg', hgg', _⟩
    · exact .inl rfl
    · exact .inr (by simp [Value.ownBlock])
  · rcases h.2 with ⟨rfl, _⟩ | ⟨g', cap', cur', rfl, hbg', hgg', _⟩
    · exact .inl rfl
    · refine .inr (fun he => ?_)
      simp only [Value.ownBlock, Option.some.injEq] at he
      subst he
      rw [hgg] at hgg'
      cases hgg'
      exact hne rfl

theorem blk_kind {w w' : World} {N R : Nat} {e : TypeId} {size : Nat} {v : Value} {n : Nat} {xs : List Value} (hown : w.ownsRow N e size v n xs) (hg : w.grownBy w' v.ownBlock) {cs : Array Value} {t : TypeId} {fr : Nat × Nat} (hR : w.heap[R]? = some (.cells cs t fr)) (hne : e ≠ t) : w'.heap[R]? = some (.cells cs t fr) := by
  rw [hg.block R (blk_lt hR) (fun he => ?_), hR]
  rcases hown.2 with ⟨rfl, _⟩ | ⟨g, cap, cur, rfl, hbg, hgg, _⟩
  · simp [Value.ownBlock] at he
  · simp only [Value.ownBlock, Option.some.injEq] at he
    subst he
    rw [hgg] at hR
    cases hR
    exact hne rfl

theorem owns_set_kind {w : World} {N R : Nat} {e : TypeId} {size : Nat} {v : Value} {n : Nat} {xs : List Value} (hown : w.ownsRow N e size v n xs) {cs : Array Value} {t : TypeId} {fr : Nat × Nat} (hR : w.heap[R]? = some (.cells cs t fr)) (hne : e ≠ t) (j : Nat) (u : Value) : (w.setCell ⟨R, j, none⟩ u).ownsRow N e size v n xs := by
  refine hown.kept (grown_set w R j u) ?_
  rcases hown.2 with ⟨rfl, _⟩ | ⟨g, cap, cur, rfl, hbg, hgg, _⟩
  · exact .inl rfl
  · refine .inr (fun he => ?_)
    simp only [Value.ownBlock, Option.some.injEq] at he
    subst he
    rw [hgg] at hR
    cases hR
    exact hne rfl

theorem wr_cells {w : World} {R : Nat} {vb vk : Value} (h : w.heap[R]? = some (.cells #[vb, vk] 117 (0, 0))) :
    w.cell? ⟨R, 0, none⟩ = some vb ∧ w.cell? ⟨R, 1, none⟩ = some vk ∧ w.frozen? ⟨R, 0, none⟩ = false ∧ w.frozen? ⟨R, 1, none⟩ = false := by
  refine ⟨?_, ?_, frozen_of_blk h _, frozen_of_blk h _⟩ <;> (rw [cell_of_blk h]; rfl)

theorem Wr.lt {w : World} {N R : Nat} {B : ByteArray} {K : List (ByteArray × Nat)} (h : Wr w N R B K) : R < w.heap.size := by
  obtain ⟨vb, ab, cb, vk, ak, ck, hR, _⟩ := h
  exact blk_lt hR

theorem Wr.below {w w' : World} {N R : Nat} {B : ByteArray} {K : List (ByteArray × Nat)} (h : Wr w N R B K) (hb : Below w.heap.size w w') : Wr w' N R B K := by
  obtain ⟨vb, ab, cb, vk, ak, ck, hR, hN, e1, e2, o1, o2⟩ := h
  have hg : w.grownBy w' none := grown_below hb
  refine ⟨vb, ab, cb, vk, ak, ck, (hb.block R (blk_lt hR)).trans hR, hN, e1, e2, o1.kept hg ?_, o2.kept hg ?_⟩
  · cases h : vb.ownBlock with
    | none => exact .inl rfl
    | some g => exact .inr (by simp)
  · cases h : vk.ownBlock with
    | none => exact .inl rfl
    | some g => exact .inr (by simp)

theorem byteCells_append (a b : ByteArray) : byteCells (a ++ b) = byteCells a ++ byteCells b := by
  simp [byteCells, ByteArray.data_append]

set_option maxHeartbeats 400000 in
theorem full_w (N R : Nat) (B : ByteArray) (K : List (ByteArray × Nat)) (w : World) (h : Wr w N R B K) (hB : B.size ≤ 400000) :
    Calls Try.prog 84 #[.pointer (some ⟨R, 0, none⟩)] w fun e w' => e = .returned (.bool (decide (65535 < B.size))) ∧ w' = w := by
  obtain ⟨vb, ab, cb, vk, ak, ck, hR, hN, rfl, rfl, o1, o2⟩ := h
  obtain ⟨c0, c1, z0, z1⟩ := wr_cells hR
  clear hR o1 o2
  go_enter Try.func84, Try.ntmps84
  go_wp2_with fail
  go_ret
  exact ⟨ret_bool (by rw [Bool.eq_iff_iff]; simp; omega), rfl⟩

set_option maxRecDepth 100000 in
set_option maxHeartbeats 400000 in
theorem bytes_w (N R : Nat) (B : ByteArray) (K : List (ByteArray × Nat)) (s : ByteArray) (w : World) (h : Wr w N R B K) (hB : B.size ≤ 400000) (hs : s.size ≤ 400000) :
    Calls Try.prog 152 #[.pointer (some ⟨R, 0, none⟩), .string s] w fun e w' => e = .returned (.tuple #[]) ∧ Wr w' N R (B ++ s) K ∧ WFrame N w w' := by
  obtain ⟨vb, ab, cb, vk, ak, ck, hR, hN, rfl, rfl, o1, o2⟩ := h
  obtain ⟨c0, c1, z0, z1⟩ := wr_cells hR
  have HR := hide hR
  have hlt := blk_lt hR
  obtain ⟨i0, hi, hz0, hz1, hz2⟩ := info_parts Try.info5
  have Hi := hide hi
  have Hz0 := hide hz0
  have Hz1 := hide hz1
  have Hz2 := hide hz2
  have O1 := hide o1
  have O2 := hide o2
  clear hi hz0 hz1 hz2 hR o1 o2
  go_enter Try.func152, Try.ntmps152
  go_wp2_with (at_builtin; refine wpList_append_row _ rfl _ _ 105 9 rfl N 5 i0 (.int .u8 0) 1 1 Try.underlying105 (unhide Hi) (unhide Hz0) (unhide Hz1) (unhide Hz2) rfl (.slice ab B.size cb) B.size (byteCells B) (by rfl) (unhide O1) (.string s) s.size (byteCells s) (by rfl) (Src.ofString _ Try.underlying9 s) (by unfold maxLen; omega) (by omega) (by omega) ?_; intro a1 e1 w1 hown1 hgrow1 hat1; have hR1 := blk_kind (unhide O1) hgrow1 (unhide HR) (by decide); have hO2 := owns_kind (unhide O1) hgrow1 (unhide O2) (by decide); have hfr := WFrame.of_append (unhide O1) hgrow1 (.inl rfl); obtain ⟨d0, d1, y0, y1⟩ := wr_cells hR1; have HR1 := hide hR1; have HO2 := hide hO2; have HF := hide hfr; have HO1 := hide hown1; have HG := hide hgrow1; clear c0 c1 z0 z1 hR1 hO2 hfr hown1 hgrow1 hat1)
  go_end0
  refine ⟨rfl, ?_, (unhide HF).trans (WFrame.of_grown (grown_set _ R 0 _) hN (unhide HR1) (.inr (.inr rfl)))⟩
  refine ⟨_, a1, e1, _, ak, ck, (blk_set (unhide HR1) 0 _).trans rfl, hN, by rw [ByteArray.size_append], rfl, ?_, ?_⟩
  · rw [byteCells_append, ByteArray.size_append]
    exact owns_set_kind (unhide HO1) (unhide HR1) (by decide) 0 _
  · exact owns_set_kind (unhide HO2) (unhide HR1) (by decide) 0 _

end Go.Proofs.Ytdhobdmhnocbgaa
