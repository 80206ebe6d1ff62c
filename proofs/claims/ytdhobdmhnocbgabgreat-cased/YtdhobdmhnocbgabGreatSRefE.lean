/-
  The plain side of the document's Parse: part by part.
-/
/-
  Walks over the document's own answer: Parse.
-/
import Derived.Test.YtdhobdmhnocbgabGreatSParseX
import Derived.Test.YtdhobdmhnocbgabGreatSRefD
namespace Go.Proofs.YtdhobdmhnocbgabGreat.Zr

def setPart (m : Msg) (i : Nat) (l : List Rc) : Msg :=
  if i = 0 then { m with a := l } else if i = 1 then { m with u := l } else { m with x := l }

def partsTo (b : ByteArray) (m0 : Msg) (p1 : Nat) : Nat → Except Int (Msg × Nat)
  | 0 => .ok (m0, p1)
  | i + 1 => match partsTo b m0 p1 i with
    | .error e => .error e
    | .ok (m, p) => match rcTo b i p (num b (2 * (3 + i)) 2) with
      | .error e => .error e
      | .ok (l, p') => .ok (setPart m i l, p')

/-- The message that the records are put into. -/
def msgQ (b : ByteArray) (q : List Qs) : Msg := ⟨num b 0 2, num b 2 2, q, [], [], []⟩

end Go.Proofs.YtdhobdmhnocbgabGreat.Zr
namespace Go.Proofs.YtdhobdmhnocbgabGreat
open Go.RowKit Zr

def Under (v : Value) (M : Nat) : Prop := ∀ g, v.ownBlock = some g → g < M
theorem under_of {w : World} {N : Nat} {e : TypeId} {size : Nat} {v : Value} {n : Nat} {xs : List Value} (h : w.ownsRow N e size v n xs) : Under v w.heap.size := fun g hg => (h.lt g hg).2
theorem Apart.symm {u v : Value} (h : Apart u v) : Apart v u := fun g hv hu => h g hu hv

/-- The message's lists lie below M. -/
def MsgUnder (v : Value) (M : Nat) : Prop := ∀ i f s1 s2 s3 s4, v = .agg #[i, f, s1, s2, s3, s4] → Under s1 M ∧ Under s2 M ∧ Under s3 M ∧ Under s4 M

theorem MsgIs.under {w : World} {N : Nat} {v : Value} {m : Msg} (h : MsgIs w N v m) : MsgUnder v w.heap.size := by
  obtain ⟨a1, c1, a2, c2, a3, c3, a4, c4, rfl, o1, o2, o3, o4, _⟩ := h
  intro i f s1 s2 s3 s4 hv
  simp only [Value.agg.injEq, Array.mk.injEq, List.cons.injEq, and_true] at hv
  obtain ⟨_, _, rfl, rfl, rfl, rfl⟩ := hv
  exact ⟨under_of o1, under_of o2, under_of o3, under_of o4⟩

theorem MsgIs.grown {w w' : World} {N M : Nat} {v : Value} {m : Msg} {row : Option Nat} (h : MsgIs w N v m) (hu : MsgUnder v M) (hg : w.grownBy w' row) (hr : ∀ g, row = some g → M ≤ g) : MsgIs w' N v m := by
  obtain ⟨a1, c1, a2, c2, a3, c3, a4, c4, hv, o1, o2, o3, o4, ap⟩ := h
  obtain ⟨u1, u2, u3, u4⟩ := hu _ _ _ _ _ _ hv
  have ne : ∀ {s : Value}, Under s M → s.ownBlock = none ∨ s.ownBlock ≠ row := by
    intro s hs
    cases hc : s.ownBlock with
    | none => exact .inl rfl
    | some g =>
      refine .inr (fun e => ?_)
      have h1 := hs g hc
      have h2 := hr g e.symm
      omega
  exact ⟨a1, c1, a2, c2, a3, c3, a4, c4, hv, o1.kept hg (ne u1), o2.kept hg (ne u2), o3.kept hg (ne u3), o4.kept hg (ne u4), ap⟩

theorem MsgIs.below {w w' : World} {N : Nat} {v : Value} {m : Msg} (h : MsgIs w N v m) (hb : Below w.heap.size w w') : MsgIs w' N v m :=
  h.grown h.under (grown_below (row := none) hb) (fun g hg => by cases hg)

end Go.Proofs.YtdhobdmhnocbgabGreat

namespace Go.Proofs.YtdhobdmhnocbgabGreat
open Go.RowKit Zr

/-- What stands around the message while it is read: the result's box, the message's box, all that was there before. -/
structure Around (w : World) (N : Nat) (wr : World) (cs : Array Value) : Prop where
  res : wr.heap[N]? = some msg0
  box : wr.heap[N + 1]? = some (.cells cs 27 (0, 0))
  below : Below N w wr

theorem Around.step {w wr wr' : World} {N : Nat} {cs : Array Value} (h : Around w N wr cs) (hb : Below wr.heap.size wr wr') : Around w N wr' cs :=
  ⟨(hb.block N (blk_lt h.res)).trans h.res, (hb.block (N + 1) (blk_lt h.box)).trans h.box, h.below.trans (hb.mono (by have := blk_lt h.box; omega))⟩
theorem Around.alloc {w wr : World} {N : Nat} {cs : Array Value} (h : Around w N wr cs) (o : Obj) : Around w N (wr.alloc o) cs :=
  h.step ((Below.refl _ _).alloc (Nat.le_refl _) _)
theorem Around.grown {w wr wr' : World} {N : Nat} {cs : Array Value} {row : Option Nat} (h : Around w N wr cs) (hg : wr.grownBy wr' row) (hr : ∀ k, row = some k → N + 2 ≤ k) : Around w N wr' cs := by
  have h1 := blk_lt h.box
  refine ⟨(hg.block N (blk_lt h.res) (fun e => by have := hr N e.symm; omega)).trans h.res, (hg.block (N + 1) h1 (fun e => by have := hr _ e.symm; omega)).trans h.box, ?_⟩
  exact Below.grown h.below hg (by omega) (fun k hk => by have := hr k hk; omega)
theorem Around.set {w wr : World} {N : Nat} {cs : Array Value} (h : Around w N wr cs) (j : Nat) (v : Value) : Around w N (wr.setCell ⟨N + 1, j, none⟩ v) (cs.setIfInBounds j v) :=
  ⟨(blk_set_other (by omega) _ _).trans h.res, blk_set h.box _ _, h.below.setCell (show N ≤ N + 1 by omega) _⟩

theorem owns_below {w w' : World} {N : Nat} {e : TypeId} {size : Nat} {v : Value} {n : Nat} {xs : List Value} (h : w.ownsRow N e size v n xs) (hb : Below w.heap.size w w') : w'.ownsRow N e size v n xs := by
  refine h.kept (grown_below (row := none) hb) ?_
  cases v.ownBlock with
  | none => exact .inl rfl
  | some g => exact .inr (by simp)

end Go.Proofs.YtdhobdmhnocbgabGreat
