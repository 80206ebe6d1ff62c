/-
  Walks over zonekeep: raw numbers, read one after the other; bytes; labels.
-/
/-
  Walks over zonekeep: labels, names.
-/
/-
  Walks over zonekeep: data of a type.
-/
/-
  Walks over zonekeep: where a record is being made.
-/
/-
  Walks over zonekeep: an OPT; lists of records.
-/
/-
  Walks over zonekeep: an OPT record, and that its data are few.
-/
import Derived.Test.YtdhobdmhnocbgaaGreatSKeepA
import Derived.Test.YtdhobdmhnocbgaaGreatSRefP
namespace Go.Proofs.YtdhobdmhnocbgaaGreat
open Go.RowKit Zr

/-- Only blocks of these kinds, from N on, may have turned. -/
structure RFrame (N : Nat) (w w' : World) : Prop where
  os : w'.os = w.os
  tape : w'.tape = w.tape
  output : w'.output = w.output
  size : w.heap.size ≤ w'.heap.size
  low : ∀ k, k < N → k < w.heap.size → w'.heap[k]? = w.heap[k]?
  kind : ∀ (k : Nat) (cs : Array Value) (t : TypeId) (fr : Nat × Nat), w.heap[k]? = some (Obj.cells cs t fr) → t ≠ 5 → t ≠ 9 → t ≠ 69 → w'.heap[k]? = some (Obj.cells cs t fr)

theorem RFrame.refl (N : Nat) (w : World) : RFrame N w w := ⟨rfl, rfl, rfl, Nat.le_refl _, fun _ _ _ => rfl, fun _ _ _ _ h _ _ _ => h⟩
theorem RFrame.trans {N : Nat} {a b c : World} (h : RFrame N a b) (k : RFrame N b c) : RFrame N a c :=
  ⟨k.os.trans h.os, k.tape.trans h.tape, k.output.trans h.output, Nat.le_trans h.size k.size, fun i h1 h2 => (k.low i h1 (Nat.lt_of_lt_of_le h2 h.size)).trans (h.low i h1 h2), fun i cs t fr h1 h2 h3 h4 => k.kind i cs t fr (h.kind i cs t fr h1 h2 h3 h4) h2 h3 h4⟩
theorem RFrame.below {N : Nat} {w w' : World} (h : RFrame N w w') (hN : N ≤ w.heap.size) : Below N w w' := ⟨h.os, h.tape, h.output, h.size, fun k hk => h.low k hk (Nat.lt_of_lt_of_le hk hN)⟩
theorem RFrame.of_below {N : Nat} {w w' : World} (h : Below w.heap.size w w') : RFrame N w w' :=
  ⟨h.os, h.tape, h.output, h.size, fun k _ hk => h.block k hk, fun k _ _ _ hk _ _ _ => (h.block k (blk_lt hk)).trans hk⟩
theorem RFrame.of_grown {N g : Nat} {w w' : World} (h : w.grownBy w' (some g)) (hg : N ≤ g) {cs : Array Value} {t : TypeId} {fr : Nat × Nat} (hk : w.heap[g]? = some (.cells cs t fr)) (ht : t = 5 ∨ t = 9 ∨ t = 69) : RFrame N w w' :=
  ⟨h.os, h.tape, h.output, h.size, fun k h1 h2 => h.block k h2 (fun e => by cases e; omega), fun k cs' t' fr' h1 h2 h3 h4 => (h.block k (blk_lt h1) (fun e => by
    cases e
    rw [hk] at h1
    cases h1
    rcases ht with h | h | h
    · exact h2 h
    · exact h3 h
    · exact h4 h)).trans h1⟩
theorem RFrame.of_none {N : Nat} {w w' : World} (h : w.grownBy w' none) : RFrame N w w' :=
  ⟨h.os, h.tape, h.output, h.size, fun k h1 h2 => h.block k h2 (by simp), fun k _ _ _ h1 _ _ _ => (h.block k (blk_lt h1) (by simp)).trans h1⟩
theorem RFrame.of_append {N : Nat} {w w' : World} {e : TypeId} {size : Nat} {v : Value} {n : Nat} {xs : List Value} (hown : w.ownsRow N e size v n xs) (hg : w.grownBy w' v.ownBlock) (ht : e = 5 ∨ e = 9 ∨ e = 69) : RFrame N w w' := by
  rcases hown.2 with ⟨rfl, _⟩ | ⟨g, cap, cur, rfl, hbg, hgg, _⟩
  · exact RFrame.of_none hg
  · exact RFrame.of_grown hg hbg hgg ht

/-- A row of another kind stays. -/
theorem RFrame.owns {N N' : Nat} {w w' : World} (h : RFrame N w w') {e : TypeId} {size : Nat} {v : Value} {n : Nat} {xs : List Value} (ho : w.ownsRow N' e size v n xs) (h1 : e ≠ 5) (h2 : e ≠ 9) (h3 : e ≠ 69) : w'.ownsRow N' e size v n xs := by
  refine ⟨ho.1, ?_⟩
  rcases ho.2 with hn | ⟨g, cap, cur, rfl, hb, hgg, rest⟩
  · exact .inl hn
  · exact .inr ⟨g, cap, cur, rfl, hb, h.kind g cur e (0, 0) hgg h1 h2 h3, rest⟩

/-- The raw numbers lie below the block N. -/
def RawAt (w : World) (N : Nat) (a : Option Addr) (n : Nat) : Prop := ∀ j, j < n → ∃ b o z, a = some ⟨b, o, none⟩ ∧ b < N ∧ w.cell? ⟨b, o + j, none⟩ = some (.int .i64 z) ∧ -9223372036854775808 ≤ z ∧ z < 9223372036854775808

theorem RawAt.below {w w' : World} {N : Nat} {a : Option Addr} {n : Nat} (h : RawAt w N a n) (hb : Below N w w') : RawAt w' N a n := by
  intro j hj
  obtain ⟨b, o, z, h1, h2, h3, h4⟩ := h j hj
  exact ⟨b, o, z, h1, h2, (hb.cell (p := ⟨b, o + j, none⟩) h2).trans h3, h4⟩

def scells (K : List ByteArray) : List Value := K.map .string

def Ro (w : World) (N R : Nat) (a : Option Addr) (n c : Nat) (K : List ByteArray) : Prop :=
  ∃ (k : Nat) (ak : Option Addr) (ck : Nat), w.heap[R]? = some (.cells #[.slice a n c, .int .i64 k, .slice ak K.length ck] 69 (0, 0)) ∧ N ≤ R ∧ k ≤ n ∧ n ≤ 9223372036854775807 ∧ w.ownsRow N 9 1 (.slice ak K.length ck) K.length (scells K) ∧ RawAt w N a n ∧ (∀ s, s ∈ K → wholeB s = true)

theorem Ro.lt {w : World} {N R : Nat} {a : Option Addr} {n c : Nat} {K : List ByteArray} (h : Ro w N R a n c K) : N ≤ R ∧ R < w.heap.size := by
  obtain ⟨k, ak, ck, h1, h2, _⟩ := h
  exact ⟨h2, blk_lt h1⟩

theorem Ro.below {w w' : World} {N R : Nat} {a : Option Addr} {n c : Nat} {K : List ByteArray} (h : Ro w N R a n c K) (hb : Below w.heap.size w w') : Ro w' N R a n c K := by
  have hl := h.lt
  obtain ⟨k, ak, ck, h1, h2, h3, h4, h5, h6, h7⟩ := h
  exact ⟨k, ak, ck, (hb.block R (blk_lt h1)).trans h1, h2, h3, h4, h5.kept (row := none) ⟨hb.os, hb.tape, hb.output, hb.size, fun i hi _ => hb.block i hi⟩ (by
    cases h : (Value.slice ak K.length ck).ownBlock with
    | none => exact .inl rfl
    | some g => exact .inr (by simp)), h6.below (hb.mono (by omega)), h7⟩

/-- What next answers. -/
def Below0 (m : Nat) (e : Ending) : Prop := ∃ r : Nat, r < m ∧ e = .returned (.int .i64 r)

theorem Ro.next {w w' : World} {N R : Nat} {a : Option Addr} {n c : Nat} {K : List ByteArray} (h : Ro w N R a n c K) (hg : w.grownBy w' (some R)) : RFrame N w w' := by
  obtain ⟨k, ak, ck, h1, h2, _⟩ := h
  exact RFrame.of_grown hg h2 h1 (.inr (.inr rfl))

/-- A row of another kind than the rolls stays where only these turn. -/
theorem Ro.other {w w' : World} {N R : Nat} {a : Option Addr} {n c : Nat} {K : List ByteArray} (h : Ro w N R a n c K) (hg : w.grownBy w' (some R)) {N' : Nat} {e : TypeId} {size : Nat} {v : Value} {m : Nat} {xs : List Value} (ho : w.ownsRow N' e size v m xs) (hne : e ≠ 69) : w'.ownsRow N' e size v m xs := by
  obtain ⟨k, ak, ck, h1, _⟩ := h
  refine ho.kept hg ?_
  rcases ho.2 with ⟨rfl, _⟩ | ⟨g, cap, cur, rfl, hbg, hgg, _⟩
  · exact .inl rfl
  · refine .inr (fun he => ?_)
    simp only [Value.ownBlock, Option.some.injEq] at he
    subst he
    rw [hgg] at h1
    cases h1
    exact hne rfl

theorem Ro.frame {w w' : World} {N R : Nat} {a : Option Addr} {n c : Nat} {K : List ByteArray} (h : Ro w N R a n c K) {e : TypeId} {size : Nat} {v : Value} {m : Nat} {xs : List Value} (hown : w.ownsRow N e size v m xs) (hg : w.grownBy w' v.ownBlock) (h1 : e ≠ 9) (h2 : e ≠ 69) : Ro w' N R a n c K := by
  obtain ⟨k, ak, ck, g1, g2, g3, g4, g5, g6, g7⟩ := h
  refine ⟨k, ak, ck, blk_kind hown hg g1 h2, g2, g3, g4, owns_kind hown hg g5 h1, g6.below ?_, g7⟩
  refine ⟨hg.os, hg.tape, hg.output, hg.size, fun i hi => hg.block i (by have := blk_lt g1; omega) (fun e => ?_)⟩
  rcases hown.2 with ⟨rfl, _⟩ | ⟨g, cap, cur, rfl, hbg, hgg, _⟩
  · simp [Value.ownBlock] at e
  · simp only [Value.ownBlock, Option.some.injEq] at e
    omega

/-- What bytes answers. -/
def StrOf (m : Nat) (e : Ending) : Prop := ∃ s : ByteArray, s.size = m ∧ e = .returned (.string s)

end Go.Proofs.YtdhobdmhnocbgaaGreat

namespace Go.Proofs.YtdhobdmhnocbgaaGreat
open Go.RowKit Zr

/-- What label answers. -/
def LabOf (e : Ending) : Prop := ∃ x : ByteArray, 1 ≤ bt x 0 ∧ bt x 0 ≤ 63 ∧ x.size = 1 + bt x 0 ∧ e = .returned (.string x)

theorem whole_push (x s : ByteArray) (h1 : 1 ≤ bt x 0) (h2 : bt x 0 ≤ 63) (h3 : x.size = 1 + bt x 0) (hs : wholeB s = true) (h : x.size + s.size ≤ 255) : wholeB (x ++ s) = true := by
  obtain ⟨t1, t2⟩ := tl_ok hs
  refine (whole_iff _).2 ⟨?_, by rw [ByteArray.size_append]; omega⟩
  have e : bt (x ++ s) 0 = bt x 0 := by rw [bt_append, if_pos (by omega)]
  refine .lab 0 (by omega) (by omega) ?_
  rw [e]
  have := t1.shift x
  rwa [Nat.add_zero, h3, ← Nat.zero_add 1] at this

/-- What name answers. -/
def NameOf (w : World) (N R : Nat) (a : Option Addr) (n c : Nat) (K : List ByteArray) (e : Ending) (w' : World) : Prop := ∃ s : ByteArray, wholeB s = true ∧ e = .returned (.string s) ∧ Ro w' N R a n c (K ++ [s]) ∧ RFrame N w w'

end Go.Proofs.YtdhobdmhnocbgaaGreat

namespace Go.Proofs.YtdhobdmhnocbgaaGreat
open Go.RowKit Zr

theorem num1 (b : ByteArray) (i : Nat) : num b i 1 = bt b i := by simp only [num]; rw [Nat.add_zero]; omega
/-- A piece more at the end of a row. -/
theorem row_push (s x : ByteArray) (q : Nat) (hq : q < 256) (hx : x.size = q) : ∀ (f k : Nat), s.size < k + f → k ≤ s.size → rowF s 0 1 f k = true → rowF (s ++ (⟨#[UInt8.ofNat q]⟩ ++ x)) 0 1 (f + 1) k = true := by
  have hz : (s ++ ((⟨#[UInt8.ofNat q]⟩ : ByteArray) ++ x)).size = s.size + 1 + q := by
    rw [ByteArray.size_append, ByteArray.size_append, hx]; show s.size + (1 + q) = _; omega
  have hb : bt (s ++ ((⟨#[UInt8.ofNat q]⟩ : ByteArray) ++ x)) s.size = q := by
    rw [bt_append, if_neg (by omega), Nat.sub_self, bt_append, if_pos (show 0 < (⟨#[UInt8.ofNat q]⟩ : ByteArray).size by show 0 < 1; omega)]
    show (UInt8.ofNat q).toNat = q
    rw [UInt8.toNat_ofNat_of_lt' (show q < 256 by omega)]
  intro f
  induction f with
  | zero => intro k h1 h2; omega
  | succ f ih =>
    intro k h1 h2 h
    rw [rowF] at h ⊢
    simp only [Nat.add_zero] at h ⊢
    by_cases c : s.size ≤ k
    · have e : k = s.size := by omega
      subst e
      rw [if_neg (by omega), if_neg (by omega), if_neg (by omega), num1, hb, if_neg (by omega)]
      cases f with
      | zero => rw [rowF, if_pos (by omega)]
      | succ f => rw [rowF, if_pos (by omega)]
    · rw [if_neg c] at h
      have e : num (s ++ (⟨#[UInt8.ofNat q]⟩ ++ x)) k 1 = num s k 1 := by rw [num1, num1, bt_append, if_pos (by omega)]
      rw [if_neg (by omega), if_neg (by omega), if_neg (by omega), e]
      rw [if_neg (by omega), if_neg (by omega)] at h
      by_cases c2 : s.size < k + 1 + num s k 1
      · rw [if_pos c2] at h; simp at h
      · rw [if_neg c2] at h
        rw [if_neg (by omega)]
        exact ih _ (by omega) (by omega) h

theorem rowB_push (s x : ByteArray) (q : Nat) (hq : q < 256) (hx : x.size = q) (h : rowB s 0 1 = true) : rowB (s ++ ⟨#[UInt8.ofNat q]⟩ ++ x) 0 1 = true := by
  unfold rowB at h ⊢
  rw [append_assoc']
  have h1 := row_push s x q hq hx (s.size + 1) 0 (by omega) (by omega) h
  have hz : (s ++ ((⟨#[UInt8.ofNat q]⟩ : ByteArray) ++ x)).size = s.size + 1 + q := by
    rw [ByteArray.size_append, ByteArray.size_append, hx]; show s.size + (1 + q) = _; omega
  have h2 := row_push s x q hq hx (s.size + 1 + q) 0 (by omega) (by omega) (by rw [rowF_fuel s 0 1 (by omega) _ (s.size + 1) 0 (by omega) (by omega)]; exact h)
  rw [hz]
  exact h2

/-- What data answer. -/
def DataOf (w : World) (N R : Nat) (a : Option Addr) (n c : Nat) (K : List ByteArray) (t : Nat) (e : Ending) (w' : World) : Prop :=
  ∃ (d : ByteArray) (K' : List ByteArray), wellD t d ∧ e = .returned (.string d) ∧ Ro w' N R a n c K' ∧ K'.length ≤ K.length + 2 ∧ RFrame N w w'

end Go.Proofs.YtdhobdmhnocbgaaGreat

namespace Go.Proofs.YtdhobdmhnocbgaaGreat
open Go.RowKit Zr

/-- Where a record is being made: its block behind the result's, the rolls, what was there before. -/
structure RecAt (w0 : World) (N R : Nat) (a : Option Addr) (n c : Nat) (K : List ByteArray) (P : Nat) (ps cs : Array Value) (w : World) : Prop where
  ro : Ro w N R a n c K
  pa : w.heap[P]? = some (.cells ps 42 (0, 0))
  xa : w.heap[P + 1]? = some (.cells cs 42 (0, 0))
  fr : RFrame N w0 w
  old : w0.heap.size ≤ P
  low : N ≤ P

theorem Ro.set {w : World} {N R : Nat} {a : Option Addr} {n c : Nat} {K : List ByteArray} (h : Ro w N R a n c K) {X : Nat} {cs : Array Value} {t : TypeId} (hX : w.heap[X]? = some (.cells cs t (0, 0))) (h1 : 9 ≠ t) (h2 : 69 ≠ t) (hN : N ≤ X) (j : Nat) (v : Value) : Ro (w.setCell ⟨X, j, none⟩ v) N R a n c K := by
  obtain ⟨k, ak, ck, g1, g2, g3, g4, g5, g6, g7⟩ := h
  have hne : R ≠ X := fun e => by
    subst e
    rw [g1] at hX
    cases hX
    exact h2 rfl
  refine ⟨k, ak, ck, (blk_set_other hne _ _).trans g1, g2, g3, g4, owns_set_kind g5 hX h1 j v, g6.below ?_, g7⟩
  exact Below.setCell (Below.refl _ _) hN _

theorem RFrame.set {N : Nat} {w0 w : World} (h : RFrame N w0 w) {X : Nat} (hX : w0.heap.size ≤ X) (j : Nat) (v : Value) : RFrame N w0 (w.setCell ⟨X, j, none⟩ v) :=
  ⟨h.os, h.tape, h.output, by rw [size_set]; exact h.size, fun k h1 h2 => (blk_set_other (by omega) _ _).trans (h.low k h1 h2), fun k cs t fr h1 h2 h3 h4 => (blk_set_other (by have := blk_lt h1; omega) _ _).trans (h.kind k cs t fr h1 h2 h3 h4)⟩

theorem RecAt.call {w0 w w1 : World} {N R : Nat} {a : Option Addr} {n c : Nat} {K K' : List ByteArray} {P : Nat} {ps cs : Array Value} (h : RecAt w0 N R a n c K P ps cs w) (hr : Ro w1 N R a n c K') (hf : RFrame N w w1) : RecAt w0 N R a n c K' P ps cs w1 :=
  ⟨hr, hf.kind _ _ _ _ h.pa (by decide) (by decide) (by decide), hf.kind _ _ _ _ h.xa (by decide) (by decide) (by decide), h.fr.trans hf, h.old, h.low⟩
theorem RecAt.set {w0 w : World} {N R : Nat} {a : Option Addr} {n c : Nat} {K : List ByteArray} {P : Nat} {ps cs : Array Value} (h : RecAt w0 N R a n c K P ps cs w) (o : Nat) (v : Value) : RecAt w0 N R a n c K P ps (cs.setIfInBounds o v) (w.setCell ⟨P + 1, o, none⟩ v) :=
  ⟨h.ro.set h.xa (by decide) (by decide) (by have := h.low; omega) o v, (blk_set_other (by omega) _ _).trans h.pa, blk_set h.xa o v, h.fr.set (by have := h.old; omega) o v, h.old, h.low⟩
theorem RecAt.alloc {w0 w : World} {N R : Nat} {a : Option Addr} {n c : Nat} {K : List ByteArray} {P : Nat} {ps cs : Array Value} (h : RecAt w0 N R a n c K P ps cs w) (O : Obj) : RecAt w0 N R a n c K P ps cs (w.alloc O) :=
  have hA := (Below.refl w.heap.size w).alloc (Nat.le_refl _) O
  ⟨h.ro.below hA, (hA.block _ (blk_lt h.pa)).trans h.pa, (hA.block _ (blk_lt h.xa)).trans h.xa, h.fr.trans (RFrame.of_below hA), h.old, h.low⟩

/-- What record answers. -/
def RecOf (w : World) (N R : Nat) (a : Option Addr) (n c : Nat) (K : List ByteArray) (opt : Bool) (e : Ending) (w' : World) : Prop :=
  ∃ (x : RI) (K' : List ByteArray), recOk x ∧ (if opt then x.ty = 41 ∧ x.name = ⟨#[0]⟩ else x.ty ≠ 41) ∧ e = .returned (.agg #[.string x.name, .int .i64 x.ty, .int .i64 x.cl, .int .i64 x.ttl, .string x.data]) ∧ Ro w' N R a n c K' ∧ K'.length ≤ K.length + 3 ∧ RFrame N w w'

theorem eight (k : Nat) (h : k < 8) : ∃ ty : Nat, (#[.int .i64 1, .int .i64 2, .int .i64 5, .int .i64 6, .int .i64 12, .int .i64 16, .int .i64 28, .int .i64 33] : Array Value)[k]? = some (.int .i64 (ty : Nat)) ∧ ty ≤ 33 := by
  match k, h with
  | 0, _ => exact ⟨1, rfl, by omega⟩
  | 1, _ => exact ⟨2, rfl, by omega⟩
  | 2, _ => exact ⟨5, rfl, by omega⟩
  | 3, _ => exact ⟨6, rfl, by omega⟩
  | 4, _ => exact ⟨12, rfl, by omega⟩
  | 5, _ => exact ⟨16, rfl, by omega⟩
  | 6, _ => exact ⟨28, rfl, by omega⟩
  | 7, _ => exact ⟨33, rfl, by omega⟩

end Go.Proofs.YtdhobdmhnocbgaaGreat

namespace Go.Proofs.YtdhobdmhnocbgaaGreat
open Go.RowKit Zr

end Go.Proofs.YtdhobdmhnocbgaaGreat

namespace Go.Proofs.YtdhobdmhnocbgaaGreat
open Go.RowKit Zr

/-- What data of an OPT answer. -/
def DataFew (w : World) (N R : Nat) (a : Option Addr) (n c : Nat) (K : List ByteArray) (e : Ending) (w' : World) : Prop :=
  ∃ (d : ByteArray) (K' : List ByteArray), wellD 41 d ∧ d.size ≤ 600 ∧ e = .returned (.string d) ∧ Ro w' N R a n c K' ∧ K'.length ≤ K.length + 2 ∧ RFrame N w w'

/-- What opt answers. -/
def OptFew (w : World) (N R : Nat) (a : Option Addr) (n c : Nat) (K : List ByteArray) (e : Ending) (w' : World) : Prop :=
  ∃ (x : RI) (K' : List ByteArray), recOk x ∧ x.ty = 41 ∧ x.name = ⟨#[0]⟩ ∧ x.data.size ≤ 600 ∧ e = .returned (.agg #[.string x.name, .int .i64 x.ty, .int .i64 x.cl, .int .i64 x.ttl, .string x.data]) ∧ Ro w' N R a n c K' ∧ K'.length ≤ K.length + 3 ∧ RFrame N w w'

end Go.Proofs.YtdhobdmhnocbgaaGreat
