/-
  The law's struct in memory: the feeds, all that was pushed, how many messages came out, the lists that came out.
-/
import Derived.Test.YtdhobdmhnocbgaaDoorSStI
namespace Go.Proofs.YtdhobdmhnocbgaaDoor
open Go.RowKit Zr

structure Lw (w : World) (M B X A G cx ca cg : Nat) (xs ts gs : Array Value) (R : Nat → Nat) (p : Nat → ByteArray) (v1 : Value) (n1 : Nat) (o1 : List Value) (v2 : Value) (n2 : Nat) (o2 : List Value) : Prop where
  hB : w.heap[B]? = some (.cells #[.slice (some ⟨X, 0, none⟩) 2 cx, .slice (some ⟨A, 0, none⟩) 2 ca, .slice (some ⟨G, 0, none⟩) 2 cg, v1, v2] 42 (0, 0))
  hX : w.heap[X]? = some (.cells xs 43 (0, 0))
  hA : w.heap[A]? = some (.cells ts 9 (0, 0))
  hG : w.heap[G]? = some (.cells gs 3 (0, 0))
  h1 : w.ownsRow M 22 1 v1 n1 o1
  h2 : w.ownsRow M 22 1 v2 n2 o2
  ap : Apart v1 v2
  hF : ∀ k, k < 2 → FdAt w (R k) (p k)

/-- All of it lies below N. -/
structure Lb (N B X A G : Nat) (R : Nat → Nat) (v1 v2 : Value) : Prop where
  b : B < N
  x : X < N
  a : A < N
  g : G < N
  r : ∀ k, k < 2 → R k < N
  u1 : ∀ g, v1.ownBlock = some g → g < N
  u2 : ∀ g, v2.ownBlock = some g → g < N

section
variable {w w' : World} {M B X A G cx ca cg : Nat} {xs ts gs : Array Value} {R : Nat → Nat} {p : Nat → ByteArray} {v1 : Value} {n1 : Nat} {o1 : List Value} {v2 : Value} {n2 : Nat} {o2 : List Value} {N : Nat}

theorem Lw.bounds (h : Lw w M B X A G cx ca cg xs ts gs R p v1 n1 o1 v2 n2 o2) : Lb w.heap.size B X A G R v1 v2 :=
  ⟨blk_lt h.hB, blk_lt h.hX, blk_lt h.hA, blk_lt h.hG, fun k hk => by obtain ⟨e, l, q, _⟩ := h.hF k hk; exact blk_lt q, fun g hg => (h.h1.lt g hg).2, fun g hg => (h.h2.lt g hg).2⟩

theorem Lb.mono {N' : Nat} (h : Lb N B X A G R v1 v2) (hN : N ≤ N') : Lb N' B X A G R v1 v2 :=
  ⟨Nat.lt_of_lt_of_le h.b hN, Nat.lt_of_lt_of_le h.x hN, Nat.lt_of_lt_of_le h.a hN, Nat.lt_of_lt_of_le h.g hN, fun k hk => Nat.lt_of_lt_of_le (h.r k hk) hN, fun g hg => Nat.lt_of_lt_of_le (h.u1 g hg) hN, fun g hg => Nat.lt_of_lt_of_le (h.u2 g hg) hN⟩

theorem owns_belowN {e : TypeId} {size : Nat} {v : Value} {n : Nat} {xs : List Value} (h : w.ownsRow M e size v n xs) (hv : ∀ g, v.ownBlock = some g → g < N) (hb : Below N w w') : w'.ownsRow M e size v n xs := by
  refine ⟨h.1, ?_⟩
  rcases h.2 with hn | ⟨g, cap, cur, rfl, q1, q2, q3⟩
  · exact .inl hn
  · exact .inr ⟨g, cap, cur, rfl, q1, (hb.block g (hv g rfl)).trans q2, q3⟩

theorem FdAt.keep {R : Nat} {p : ByteArray} (h : FdAt w R p) (hb : w'.heap[R]? = w.heap[R]?) : FdAt w' R p := by
  obtain ⟨e, l, q1, q2⟩ := h
  exact ⟨e, l, hb.trans q1, q2⟩

theorem Lw.belowN (h : Lw w M B X A G cx ca cg xs ts gs R p v1 n1 o1 v2 n2 o2) (hl : Lb N B X A G R v1 v2) (hb : Below N w w') : Lw w' M B X A G cx ca cg xs ts gs R p v1 n1 o1 v2 n2 o2 :=
  ⟨(hb.block B hl.b).trans h.hB, (hb.block X hl.x).trans h.hX, (hb.block A hl.a).trans h.hA, (hb.block G hl.g).trans h.hG, owns_belowN h.h1 hl.u1 hb, owns_belowN h.h2 hl.u2 hb, h.ap, fun k hk => (h.hF k hk).keep (hb.block _ (hl.r k hk))⟩

theorem Lw.below (h : Lw w M B X A G cx ca cg xs ts gs R p v1 n1 o1 v2 n2 o2) (hb : Below w.heap.size w w') : Lw w' M B X A G cx ca cg xs ts gs R p v1 n1 o1 v2 n2 o2 := h.belowN h.bounds hb

/-- A row of a kind, where another block of another kind has turned. -/
theorem owns_turn {e t : TypeId} {size : Nat} {v : Value} {n : Nat} {l : List Value} {cs : Array Value} {fr : Nat × Nat} {Z : Nat} (h : w.ownsRow M e size v n l) (hZ : w.heap[Z]? = some (.cells cs t fr)) (hne : e ≠ t) (hg : w.grownBy w' (some Z)) : w'.ownsRow M e size v n l := by
  refine h.kept hg ?_
  cases hv : v.ownBlock with
  | none => exact .inl rfl
  | some g =>
    refine .inr fun he => ?_
    cases he
    rcases h.2 with ⟨q, _⟩ | ⟨g', cap, cur, rfl, _, q, _⟩
    · rw [q] at hv; simp [Value.ownBlock] at hv
    · obtain rfl : g' = Z := by simpa [Value.ownBlock] using hv
      rw [q] at hZ
      cases hZ
      exact hne rfl

theorem blk_turn {t t' : TypeId} {cs cs' : Array Value} {fr fr' : Nat × Nat} {Y Z : Nat} (h : w.heap[Y]? = some (.cells cs t fr)) (hZ : w.heap[Z]? = some (.cells cs' t' fr')) (hne : t ≠ t') (hg : w.grownBy w' (some Z)) : w'.heap[Y]? = some (.cells cs t fr) :=
  (hg.block Y (blk_lt h) (fun e => kind_ne h hZ hne (by cases e; rfl))).trans h

theorem Lw.push (h : Lw w M B X A G cx ca cg xs ts gs R p v1 n1 o1 v2 n2 o2) {k : Nat} (hk : k < 2) (hR : R 0 ≠ R 1) {q : ByteArray} (hf : FdAt w' (R k) q) (hg : w.grownBy w' (some (R k))) :
    Lw w' M B X A G cx ca cg xs ts gs R (fun i => if i = k then q else p i) v1 n1 o1 v2 n2 o2 := by
  obtain ⟨e, l, hZ, _⟩ := h.hF k hk
  have hZ : w.heap[R k]? = some (.cells #[.string e, .string l] 56 (0, 0)) := hZ
  refine ⟨blk_turn h.hB hZ (by decide) hg, blk_turn h.hX hZ (by decide) hg, blk_turn h.hA hZ (by decide) hg, blk_turn h.hG hZ (by decide) hg, owns_turn h.h1 hZ (by decide) hg, owns_turn h.h2 hZ (by decide) hg, h.ap, fun i hi => ?_⟩
  by_cases ei : i = k
  · subst ei
    simp only [if_pos]
    exact hf
  · simp only [if_neg ei]
    obtain ⟨e', l', q', _⟩ := h.hF i hi
    refine (h.hF i hi).keep (hg.block _ (blk_lt q') fun e => ?_)
    have e' : R i = R k := Option.some.inj e
    have : (i = 0 ∧ k = 1) ∨ (i = 1 ∧ k = 0) := by omega
    rcases this with ⟨rfl, rfl⟩ | ⟨rfl, rfl⟩
    · exact hR e'
    · exact hR e'.symm

theorem Lw.setA (h : Lw w M B X A G cx ca cg xs ts gs R p v1 n1 o1 v2 n2 o2) (k : Nat) (u : Value) : Lw (w.setCell ⟨A, k, none⟩ u) M B X A G cx ca cg xs (ts.setIfInBounds k u) gs R p v1 n1 o1 v2 n2 o2 := by
  have hg := grown_set w A k u
  refine ⟨blk_turn h.hB h.hA (by decide) hg, blk_turn h.hX h.hA (by decide) hg, blk_set h.hA k u, blk_turn h.hG h.hA (by decide) hg, owns_turn h.h1 h.hA (by decide) hg, owns_turn h.h2 h.hA (by decide) hg, h.ap, fun i hi => ?_⟩
  obtain ⟨e, l, q, q2⟩ := h.hF i hi
  exact ⟨e, l, blk_turn (show w.heap[R i]? = some (.cells _ _ _) from q) h.hA (by decide) hg, q2⟩

theorem Lw.setG (h : Lw w M B X A G cx ca cg xs ts gs R p v1 n1 o1 v2 n2 o2) (k : Nat) (u : Value) : Lw (w.setCell ⟨G, k, none⟩ u) M B X A G cx ca cg xs ts (gs.setIfInBounds k u) R p v1 n1 o1 v2 n2 o2 := by
  have hg := grown_set w G k u
  refine ⟨blk_turn h.hB h.hG (by decide) hg, blk_turn h.hX h.hG (by decide) hg, blk_turn h.hA h.hG (by decide) hg, blk_set h.hG k u, owns_turn h.h1 h.hG (by decide) hg, owns_turn h.h2 h.hG (by decide) hg, h.ap, fun i hi => ?_⟩
  obtain ⟨e, l, q, q2⟩ := h.hF i hi
  exact ⟨e, l, blk_turn (show w.heap[R i]? = some (.cells _ _ _) from q) h.hG (by decide) hg, q2⟩

theorem owns_off {e : TypeId} {size : Nat} {u v : Value} {n : Nat} {l : List Value} (h : w.ownsRow M e size v n l) (hg : w.grownBy w' u.ownBlock) (ha : Apart u v) : w'.ownsRow M e size v n l := by
  refine h.kept hg ?_
  cases hv : v.ownBlock with
  | none => exact .inl rfl
  | some g => exact .inr fun he => ha g he.symm hv

theorem Lw.out1 (h : Lw w M B X A G cx ca cg xs ts gs R p v1 n1 o1 v2 n2 o2) {v : Value} {n : Nat} {l : List Value} (ho : w'.ownsRow M 22 1 v n l) (hg : w.grownBy w' v1.ownBlock) (hat : v.ownBlock = v1.ownBlock ∨ v.ownBlock = some w.heap.size) :
    Lw (w'.setCell ⟨B, 3, none⟩ v) M B X A G cx ca cg xs ts gs R p v n l v2 n2 o2 := by
  have hB := blk_kind h.h1 hg h.hB (by decide)
  have hs := grown_set w' B 3 v
  refine ⟨(blk_set hB 3 v).trans rfl, blk_turn (blk_kind h.h1 hg h.hX (by decide)) hB (by decide) hs, blk_turn (blk_kind h.h1 hg h.hA (by decide)) hB (by decide) hs, blk_turn (blk_kind h.h1 hg h.hG (by decide)) hB (by decide) hs, owns_turn ho hB (by decide) hs, owns_turn (owns_off h.h2 hg h.ap) hB (by decide) hs, fun g q1 q2 => ?_, fun i hi => ?_⟩
  · rcases hat with e | e
    · exact h.ap g (e.symm.trans q1) q2
    · rw [e] at q1
      cases q1
      exact absurd (h.h2.lt _ q2).2 (Nat.lt_irrefl _)
  · obtain ⟨e, l, q, q2⟩ := h.hF i hi
    exact ⟨e, l, blk_turn (blk_kind h.h1 hg (show w.heap[R i]? = some (.cells _ _ _) from q) (by decide)) hB (by decide) hs, q2⟩

theorem Lw.out2 (h : Lw w M B X A G cx ca cg xs ts gs R p v1 n1 o1 v2 n2 o2) {v : Value} {n : Nat} {l : List Value} (ho : w'.ownsRow M 22 1 v n l) (hg : w.grownBy w' v2.ownBlock) (hat : v.ownBlock = v2.ownBlock ∨ v.ownBlock = some w.heap.size) :
    Lw (w'.setCell ⟨B, 4, none⟩ v) M B X A G cx ca cg xs ts gs R p v1 n1 o1 v n l := by
  have hB := blk_kind h.h2 hg h.hB (by decide)
  have hs := grown_set w' B 4 v
  refine ⟨(blk_set hB 4 v).trans rfl, blk_turn (blk_kind h.h2 hg h.hX (by decide)) hB (by decide) hs, blk_turn (blk_kind h.h2 hg h.hA (by decide)) hB (by decide) hs, blk_turn (blk_kind h.h2 hg h.hG (by decide)) hB (by decide) hs, owns_turn (owns_off h.h1 hg h.ap.symm) hB (by decide) hs, owns_turn ho hB (by decide) hs, fun g q1 q2 => ?_, fun i hi => ?_⟩
  · rcases hat with e | e
    · exact h.ap g q1 (e.symm.trans q2)
    · rw [e] at q2
      cases q2
      exact absurd (h.h1.lt _ q1).2 (Nat.lt_irrefl _)
  · obtain ⟨e, l, q, q2⟩ := h.hF i hi
    exact ⟨e, l, blk_turn (blk_kind h.h2 hg (show w.heap[R i]? = some (.cells _ _ _) from q) (by decide)) hB (by decide) hs, q2⟩

end

/-- Rows of texts below N stand, but for the block A. -/
def SFr (N A : Nat) (w w' : World) : Prop := ∀ (b : Nat) (cs : Array Value) (z : Nat × Nat), b < N → b ≠ A → w.heap[b]? = some (.cells cs 9 z) → w'.heap[b]? = some (.cells cs 9 z)

theorem SFr.refl (N A : Nat) (w : World) : SFr N A w w := fun _ _ _ _ _ h => h
theorem SFr.trans {N A : Nat} {w w' w'' : World} (h : SFr N A w w') (k : SFr N A w' w'') : SFr N A w w'' := fun b cs z hb hA q => k b cs z hb hA (h b cs z hb hA q)
theorem SFr.below {N A : Nat} {w w' : World} (h : Below N w w') : SFr N A w w' := fun b _ _ hb _ q => (h.block b hb).trans q
theorem SFr.turn {N A Z : Nat} {w w' : World} {cs : Array Value} {t : TypeId} {fr : Nat × Nat} (hZ : w.heap[Z]? = some (.cells cs t fr)) (hne : 9 ≠ t) (hg : w.grownBy w' (some Z)) : SFr N A w w' := fun _ _ _ _ _ q => blk_turn q hZ hne hg
theorem SFr.setA {N A : Nat} (w : World) (k : Nat) (u : Value) : SFr N A w (w.setCell ⟨A, k, none⟩ u) := fun _ _ _ _ hA q => (blk_set_other hA k u).trans q
theorem SFr.app {N A M : Nat} {w w' : World} {e : TypeId} {size : Nat} {v : Value} {n : Nat} {l : List Value} (h : w.ownsRow M e size v n l) (hne : e ≠ 9) (hg : w.grownBy w' v.ownBlock) : SFr N A w w' := fun _ _ _ _ _ q => blk_kind h hg q hne

end Go.Proofs.YtdhobdmhnocbgaaDoor
