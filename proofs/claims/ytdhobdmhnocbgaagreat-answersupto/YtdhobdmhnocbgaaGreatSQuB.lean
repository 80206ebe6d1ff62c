/-
  Walks over zonekeep: a name that is asked for; a type that is asked for.
-/
/-
  Walks over zonekeep: a question.
-/
import Derived.Test.YtdhobdmhnocbgaaGreatSRolH
import Derived.Test.YtdhobdmhnocbgaaGreatSNwC
import Derived.Test.YtdhobdmhnocbgaaGreatSSiW
namespace Go.Proofs.YtdhobdmhnocbgaaGreat
open Go.RowKit Zr

theorem origin_whole : wholeB originB = true := by kernel_rfl
theorem service_whole : wholeB serviceB = true := by kernel_rfl
def servB : ByteArray := ⟨#[4, 95, 116, 99, 112, 3, 115, 118, 99, 4, 109, 101, 115, 104, 0]⟩
theorem under_whole {s : ByteArray} (h1 : 1 ≤ s.size) (h2 : s.size ≤ 15) : wholeB (underP s) = true ∧ (underP s).size ≤ 40 := by
  have e : bt (one s.size ++ s) 0 = s.size := by
    rw [bt_append, if_pos (by show 0 < 1; omega)]
    show (UInt8.ofNat s.size).toNat = _
    rw [UInt8.toNat_ofNat_of_lt' (by simpa using (show s.size < 256 by omega))]
  have hs : (one s.size ++ s).size = 1 + s.size := by rw [ByteArray.size_append]; rfl
  have ho : originB.size = 10 := rfl
  refine ⟨whole_push (one s.size ++ s) originB (by omega) (by omega) (by omega) origin_whole (by omega), ?_⟩
  unfold underP
  rw [ByteArray.size_append]
  omega

/-- A name that is asked for. -/
def WantOf (w : World) (N R : Nat) (a : Option Addr) (n c : Nat) (K : List ByteArray) (e : Ending) (w' : World) : Prop := ∃ (s : ByteArray) (K' : List ByteArray), wholeB s = true ∧ e = .returned (.string s) ∧ Ro w' N R a n c K' ∧ K'.length ≤ K.length + 1 ∧ RFrame N w w'

end Go.Proofs.YtdhobdmhnocbgaaGreat

namespace Go.Proofs.YtdhobdmhnocbgaaGreat
open Go.RowKit Zr

/-- Where a message is being made: its block behind the result's, the rolls, what was there before. -/
structure MesAt (w0 : World) (N R : Nat) (a : Option Addr) (n c : Nat) (K : List ByteArray) (P : Nat) (ps cs : Array Value) (w : World) : Prop where
  ro : Ro w N R a n c K
  pa : w.heap[P]? = some (.cells ps 32 (0, 0))
  xa : w.heap[P + 1]? = some (.cells cs 32 (0, 0))
  fr : RFrame N w0 w
  old : w0.heap.size ≤ P
  low : N ≤ P

section
variable {w0 w w1 : World} {N R : Nat} {a : Option Addr} {n c : Nat} {K K' : List ByteArray} {P : Nat} {ps cs : Array Value}
theorem MesAt.call (h : MesAt w0 N R a n c K P ps cs w) (hr : Ro w1 N R a n c K') (hf : RFrame N w w1) : MesAt w0 N R a n c K' P ps cs w1 :=
  ⟨hr, hf.kind _ _ _ _ h.pa (by decide) (by decide) (by decide), hf.kind _ _ _ _ h.xa (by decide) (by decide) (by decide), h.fr.trans hf, h.old, h.low⟩
theorem MesAt.set (h : MesAt w0 N R a n c K P ps cs w) (o : Nat) (v : Value) : MesAt w0 N R a n c K P ps (cs.setIfInBounds o v) (w.setCell ⟨P + 1, o, none⟩ v) :=
  ⟨h.ro.set h.xa (by decide) (by decide) (by have := h.low; omega) o v, (blk_set_other (by omega) _ _).trans h.pa, blk_set h.xa o v, h.fr.set (by have := h.old; omega) o v, h.old, h.low⟩
theorem MesAt.alloc (h : MesAt w0 N R a n c K P ps cs w) (O : Obj) : MesAt w0 N R a n c K P ps cs (w.alloc O) :=
  have hA := (Below.refl w.heap.size w).alloc (Nat.le_refl _) O
  ⟨h.ro.below hA, (hA.block _ (blk_lt h.pa)).trans h.pa, (hA.block _ (blk_lt h.xa)).trans h.xa, h.fr.trans (RFrame.of_below hA), h.old, h.low⟩
end
/-- What a question is. -/
structure QueM (m : MI) : Prop where
  ok : msgOk m
  fl : m.flags < 32768
  q2 : m.q.length ≤ 2
  a0 : m.a = []
  u0 : m.u = []
  x1 : m.x = [] ∨ ∃ o, m.x = [o] ∧ o.ty = 41 ∧ 0 ≤ o.cl ∧ o.data.size ≤ 600

/-- The same, with the questions and the extra records in it. -/
structure MqAt (w0 : World) (N R : Nat) (a : Option Addr) (n c : Nat) (K : List ByteArray) (P : Nat) (id fl : Int) (aq : Option Addr) (j cq : Nat) (lq : List QI) (ax : Option Addr) (i cx : Nat) (lx : List RI) (w : World) : Prop where
  b : MesAt w0 N R a n c K P #[.int .i64 0, .int .i64 0, .slice none 0 0, .slice none 0 0, .slice none 0 0, .slice none 0 0] #[.int .i64 id, .int .i64 fl, .slice aq j cq, .slice none 0 0, .slice none 0 0, .slice ax i cx] w
  o : w.ownsRow P 60 3 (.slice aq j cq) j (qcI lq)
  x : w.ownsRow P 42 5 (.slice ax i cx) i (rcI lx)

section
variable {w0 w w1 : World} {N R : Nat} {a : Option Addr} {n c : Nat} {K K' : List ByteArray} {P : Nat} {id fl : Int} {aq : Option Addr} {j cq : Nat} {lq : List QI} {ax : Option Addr} {i cx : Nat} {lx : List RI}
theorem MqAt.call (h : MqAt w0 N R a n c K P id fl aq j cq lq ax i cx lx w) (hr : Ro w1 N R a n c K') (hf : RFrame N w w1) : MqAt w0 N R a n c K' P id fl aq j cq lq ax i cx lx w1 :=
  ⟨h.b.call hr hf, hf.owns h.o (by decide) (by decide) (by decide), hf.owns h.x (by decide) (by decide) (by decide)⟩
theorem MqAt.alloc (h : MqAt w0 N R a n c K P id fl aq j cq lq ax i cx lx w) (O : Obj) : MqAt w0 N R a n c K P id fl aq j cq lq ax i cx lx (w.alloc O) :=
  ⟨h.b.alloc O, h.o.alloc O, h.x.alloc O⟩
/-- A block of another kind, new since the beginning, is written. -/
theorem MqAt.other (h : MqAt w0 N R a n c K P id fl aq j cq lq ax i cx lx w) {X : Nat} {cs : Array Value} {t : TypeId} (hX : w.heap[X]? = some (.cells cs t (0, 0))) (h1 : X ≠ P) (h2 : X ≠ P + 1) (h3 : w0.heap.size ≤ X) (h4 : N ≤ X) (k1 : 9 ≠ t) (k2 : 69 ≠ t) (o : Nat) (v : Value)
    (ko : ∀ g, (Value.slice aq j cq).ownBlock = some g → g ≠ X) (kx : ∀ g, (Value.slice ax i cx).ownBlock = some g → g ≠ X) : MqAt w0 N R a n c K P id fl aq j cq lq ax i cx lx (w.setCell ⟨X, o, none⟩ v) := by
  have keep : ∀ {e : TypeId} {size : Nat} {u : Value} {m : Nat} {xs : List Value}, w.ownsRow P e size u m xs → (∀ g, u.ownBlock = some g → g ≠ X) → (w.setCell ⟨X, o, none⟩ v).ownsRow P e size u m xs := by
    intro e size u m xs hu hg
    refine ⟨hu.1, ?_⟩
    rcases hu.2 with q | ⟨g, cap, cur, q1, q2, q3, q4⟩
    · exact .inl q
    · exact .inr ⟨g, cap, cur, q1, q2, (blk_set_other (hg g (by rw [q1]; rfl)) _ _).trans q3, q4⟩
  exact ⟨⟨h.b.ro.set hX k1 k2 h4 o v, (blk_set_other (Ne.symm h1) _ _).trans h.b.pa, (blk_set_other (Ne.symm h2) _ _).trans h.b.xa, h.b.fr.set h3 o v, h.b.old, h.b.low⟩, keep h.o ko, keep h.x kx⟩
theorem MesAt.app {ps cs : Array Value} (h : MesAt w0 N R a n c K P ps cs w) {e : TypeId} {size m : Nat} {v : Value} {xs : List Value} (hown : w.ownsRow P e size v m xs) (hg : w.grownBy w1 v.ownBlock) (h1 : e ≠ 9) (h2 : e ≠ 69) (h3 : e ≠ 32) : MesAt w0 N R a n c K P ps cs w1 := by
  refine ⟨h.ro.frame (owns_lower h.low hown) hg h1 h2, blk_kind hown hg h.pa h3, blk_kind hown hg h.xa h3, ?_, h.old, h.low⟩
  have hne : ∀ k, k < w0.heap.size → some k ≠ v.ownBlock := fun k hk e => by
    have := (hown.lt k e.symm).1
    have := h.old
    omega
  have hf := h.fr
  exact ⟨hg.os.trans hf.os, hg.tape.trans hf.tape, hg.output.trans hf.output, Nat.le_trans hf.size hg.size, fun k k1 k2 => (hg.block k (Nat.lt_of_lt_of_le k2 hf.size) (hne k k2)).trans (hf.low k k1 k2), fun k cs t fr k1 k2 k3 k4 => (hg.block k (Nat.lt_of_lt_of_le (blk_lt k1) hf.size) (hne k (blk_lt k1))).trans (hf.kind k cs t fr k1 k2 k3 k4)⟩
end

/-- The lists of a message lie from the block P on. -/
def HighM (P : Nat) (v : Value) : Prop := ∃ vs : Array Value, v = .agg vs ∧ ∀ (i : Nat) (u : Value) (g : Nat), vs[i]? = some u → u.ownBlock = some g → P ≤ g
section
variable {w0 w w1 : World} {N R : Nat} {a : Option Addr} {n c : Nat} {K K' : List ByteArray} {P : Nat} {id fl : Int} {aq : Option Addr} {j cq : Nat} {lq : List QI} {ax : Option Addr} {i cx : Nat} {lx : List RI}
/-- The message, laid into the result's box. -/
theorem MqAt.out (h : MqAt w0 N R a n c K P id fl aq j cq lq ax i cx lx w) (hj : lq.length = j) (hi : lx.length = i) (hok : msgOk ⟨id, fl, lq, [], [], lx⟩) :
    MsgAt ((((((w.setCell ⟨P, 0, none⟩ (.int .i64 id)).setCell ⟨P, 1, none⟩ (.int .i64 fl)).setCell ⟨P, 2, none⟩ (.slice aq j cq)).setCell ⟨P, 3, none⟩ (.slice none 0 0)).setCell ⟨P, 4, none⟩ (.slice none 0 0)).setCell ⟨P, 5, none⟩ (.slice ax i cx)) ((((((w.setCell ⟨P, 0, none⟩ (.int .i64 id)).setCell ⟨P, 1, none⟩ (.int .i64 fl)).setCell ⟨P, 2, none⟩ (.slice aq j cq)).setCell ⟨P, 3, none⟩ (.slice none 0 0)).setCell ⟨P, 4, none⟩ (.slice none 0 0)).setCell ⟨P, 5, none⟩ (.slice ax i cx)).heap.size (.agg #[.int .i64 id, .int .i64 fl, .slice aq j cq, .slice none 0 0, .slice none 0 0, .slice ax i cx]) ⟨id, fl, lq, [], [], lx⟩ ∧
    RFrame N w0 ((((((w.setCell ⟨P, 0, none⟩ (.int .i64 id)).setCell ⟨P, 1, none⟩ (.int .i64 fl)).setCell ⟨P, 2, none⟩ (.slice aq j cq)).setCell ⟨P, 3, none⟩ (.slice none 0 0)).setCell ⟨P, 4, none⟩ (.slice none 0 0)).setCell ⟨P, 5, none⟩ (.slice ax i cx)) ∧ HighM w0.heap.size (.agg #[.int .i64 id, .int .i64 fl, .slice aq j cq, .slice none 0 0, .slice none 0 0, .slice ax i cx]) := by
  obtain ⟨z1, z2, z3, z4⟩ := msgOk_sized hok
  have o1 := owns_store6 h.o h.b.pa (by decide) (.int .i64 id) (.int .i64 fl) (.slice aq j cq) (.slice none 0 0) (.slice none 0 0) (.slice ax i cx)
  have o2 := owns_store6 h.x h.b.pa (by decide) (.int .i64 id) (.int .i64 fl) (.slice aq j cq) (.slice none 0 0) (.slice none 0 0) (.slice ax i cx)
  subst hj
  subst hi
  have c1 : lq.length ≤ cq := by
    rcases o1.2 with ⟨_, q⟩ | ⟨g, cap, cur, q1, _, _, q4, _⟩
    · omega
    · cases q1; exact q4
  refine ⟨⟨aq, cq, none, 0, none, 0, ax, cx, rfl, owns_rowAt o1, fun q => absurd rfl q, fun q => absurd rfl q, owns_rowAt o2, z1, z2, z3, z4, c1, Nat.le_refl _, Nat.le_refl _, (owns_recRow o2).2⟩, ?_, ?_⟩
  rotate_left
  · refine ⟨_, rfl, fun k u g hk hu => ?_⟩
    have ho := h.b.old
    match k with
    | 0 => cases hk; cases hu
    | 1 => cases hk; cases hu
    | 2 => cases hk; have := (o1.lt g hu).1; omega
    | 3 => cases hk; cases hu
    | 4 => cases hk; cases hu
    | 5 => cases hk; have := (o2.lt g hu).1; omega
    | k + 6 => simp at hk
  exact (((((h.b.fr.set h.b.old 0 _).set h.b.old 1 _).set h.b.old 2 _).set h.b.old 3 _).set h.b.old 4 _).set h.b.old 5 _
end

/-- A question that comes out. -/
def QueOut (w : World) (N : Nat) (e : Ending) (w' : World) : Prop := ∃ m v, e = .returned v ∧ QueM m ∧ MsgAt w' w'.heap.size v m ∧ RFrame N w w' ∧ HighM w.heap.size v

end Go.Proofs.YtdhobdmhnocbgaaGreat
