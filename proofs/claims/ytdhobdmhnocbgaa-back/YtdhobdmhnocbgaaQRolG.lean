/-
  Walks over zonekeep: where a record is being made.
-/
/-
  Walks over zonekeep: an OPT; lists of records.
-/
/-
  Walks over zonekeep: a record.
-/
import Derived.Test.YtdhobdmhnocbgaaQRolC
namespace Go.Proofs.Ytdhobdmhnocbgaa
open Go.RowKit Zr

/-- Where a record is being made: its block behind the result's, the rolls, what was there before. -/
structure RecAt (w0 : World) (N R : Nat) (a : Option Addr) (n c : Nat) (K : List ByteArray) (P : Nat) (ps cs : Array Value) (w : World) : Prop where
  ro : Ro w N R a n c K
  pa : w.heap[P]? = some (.cells ps 86 (0, 0))
  xa : w.heap[P + 1]? = some (.cells cs 86 (0, 0))
  fr : RFrame N w0 w
  old : w0.heap.size ≤ P
  low : N ≤ P

theorem Ro.set {w : World} {N R : Nat} {a : Option Addr} {n c : Nat} {K : List ByteArray} (h : Ro w N R a n c K) {X : Nat} {cs : Array Value} {t : TypeId} (hX : w.heap[X]? = some (.cells cs t (0, 0))) (h1 : 9 ≠ t) (h2 : 57 ≠ t) (hN : N ≤ X) (j : Nat) (v : Value) : Ro (w.setCell ⟨X, j, none⟩ v) N R a n c K := by
  obtain ⟨k, ak, ck, g1, g2, g3, g4, g5, g6, g7⟩ := h
  have hne : R ≠ X := fun e => by
    subst e
    rw [g1] at hX
    cases hX
    exact h2 rfl
  refine ⟨k, ak, ck, (blk_set_other hne _ _).trans g1, g2, g3, g4, owns_set_kind g5 hX h1 j v, g6.below ?_, g7⟩
  exact Below.setCell (Below.refl _ _) hN _

theorem RFrame.set {N : Nat} {w0 w : World} (h : RFrame N w0 w) {X : Nat} (hX : w0.heap.size ≤ X) (j : Nat) (v : Value) : RFrame N w0 (w.setCell ⟨X, j, none⟩ v) :=
  ⟨h.os, h.tape, h.output, by rw [size_set]; exact h.size, fun k h1 h2 => (blk_set_other (by omega) _ _).trans (h.low k h1 h2), fun k cs t fr h1 h2 h3 h4 => (blk_set_other (by have := blk_lt h1; omega) _ _).trans (h.kind k cs t fr h1 h2 h3 h4)⟩

theorem RecAt.call {w0 w w1 : World} {N R : Nat} {a : Option Addr} {n c : Nat} {K K' : List ByteArray} {P : Nat} {ps cs : Array Value} (h : RecAt w0 N R a n c K P ps cs w) (hr : Ro w1 N R a n c K') (hf : RFrame N w w1) : RecAt w0 N R a n c K' P ps cs w1 :=
  ⟨hr, hf.kind _ _ _ _ h.pa (by decide) (by decide) (by decide), hf.kind _ _ _ _ h.xa (by decide) (by decide) (by decide), h.fr.trans hf, h.old, h.low⟩
theorem RecAt.set {w0 w : World} {N R : Nat} {a : Option Addr} {n c : Nat} {K : List ByteArray} {P : Nat} {ps cs : Array Value} (h : RecAt w0 N R a n c K P ps cs w) (o : Nat) (v : Value) : RecAt w0 N R a n c K P ps (cs.setIfInBounds o v) (w.setCell ⟨P + 1, o, none⟩ v) :=
  ⟨h.ro.set h.xa (by decide) (by decide) (by have := h.low; omega) o v, (blk_set_other (by omega) _ _).trans h.pa, blk_set h.xa o v, h.fr.set (by have := h.old; omega) o v, h.old, h.low⟩
theorem RecAt.setP' {w0 w : World} {N R : Nat} {a : Option Addr} {n c : Nat} {K : List ByteArray} {P : Nat} {ps cs : Array Value} (h : RecAt w0 N R a n c K P ps cs w) (o : Nat) (v : Value) : RecAt w0 N R a n c K P (ps.setIfInBounds o v) cs (w.setCell ⟨P, o, none⟩ v) :=
  ⟨h.ro.set h.pa (by decide) (by decide) h.low o v, blk_set h.pa o v, (blk_set_other (by omega) _ _).trans h.xa, h.fr.set h.old o v, h.old, h.low⟩
theorem RecAt.alloc {w0 w : World} {N R : Nat} {a : Option Addr} {n c : Nat} {K : List ByteArray} {P : Nat} {ps cs : Array Value} (h : RecAt w0 N R a n c K P ps cs w) (O : Obj) : RecAt w0 N R a n c K P ps cs (w.alloc O) :=
  have hA := (Below.refl w.heap.size w).alloc (Nat.le_refl _) O
  ⟨h.ro.below hA, (hA.block _ (blk_lt h.pa)).trans h.pa, (hA.block _ (blk_lt h.xa)).trans h.xa, h.fr.trans (RFrame.of_below hA), h.old, h.low⟩

theorem rec_start {w : World} {N R : Nat} {a : Option Addr} {n c : Nat} {K : List ByteArray} (h : Ro w N R a n c K) (A B : Array Value) : RecAt w N R a n c K w.heap.size A B ((w.alloc (.cells A 86)).alloc (.cells B 86)) := by
  have hl := h.lt
  have hA := (Below.refl w.heap.size w).alloc (Nat.le_refl _) (.cells A 86)
  have hB := hA.alloc (by simp) (.cells B 86)
  exact ⟨h.below hB, (two_new w _ _).1, (two_new w _ _).2, RFrame.of_below hB, Nat.le_refl _, by omega⟩

/-- What record answers. -/
def RecOf (w : World) (N R : Nat) (a : Option Addr) (n c : Nat) (K : List ByteArray) (opt : Bool) (e : Ending) (w' : World) : Prop :=
  ∃ (x : RI) (K' : List ByteArray), recOk x ∧ (if opt then x.ty = 41 ∧ x.name = ⟨#[0]⟩ else x.ty ≠ 41) ∧ e = .returned (.agg #[.string x.name, .int .i64 x.ty, .int .i64 x.cl, .int .i64 x.ttl, .string x.data]) ∧ Ro w' N R a n c K' ∧ K'.length ≤ K.length + 3 ∧ RFrame N w w'

theorem eight (k : Nat) (h : k < 8) : ∃ ty : Nat, (#[.int .i64 1, .int .i64 2, .int .i64 5, .int .i64 6, .int .i64 12, .int .i64 16, .int .i64 28, .int .i64 33] : Array Value)[k]? = some (.int .i64 (ty : Nat)) ∧ ty ≤ 33 := by
  match k, h with
  | 0, _ => exact ⟨1, rfl, by omega⟩
  | 1, _ => exact ⟨2, rfl, by omega⟩
  | 2, _ => exact ⟨5, rfl, by omega⟩
  | 3, _ => exact ⟨6, rfl, by omega⟩
  | 4, _ => exact ⟨12, rfl, by omega⟩
  | 5, _ => exact ⟨16, rfl, by omega⟩
  | 6, _ => exact ⟨28, rfl, by omega⟩
  | 7, _ => exact ⟨33, rfl, by omega⟩

end Go.Proofs.Ytdhobdmhnocbgaa

namespace Go.Proofs.Ytdhobdmhnocbgaa
open Go.RowKit Zr

set_option maxRecDepth 100000 in
set_option maxHeartbeats 4000000 in
theorem opt_any (N R : Nat) (a : Option Addr) (n c : Nat) (K : List ByteArray) (w : World) (h : Ro w N R a n c K) (hK : K.length ≤ 800) :
    Calls Try.prog 51 #[.pointer (some ⟨R, 0, none⟩)] w fun e w' => RecOf w N R a n c K true e w' := by
  have keyN := fun (K : List ByteArray) W (h : Ro W N R a n c K) (m : Nat) (v : Int) (h1 : 0 < m) (h2 : m ≤ 4294967296) (hv : v = m) => next_any N R a n c K m v W h h1 (by omega) hv
  have keyD := fun (K : List ByteArray) W (h : Ro W N R a n c K) (t : Nat) (v : Int) (hK : K.length ≤ 900) (hv : v = t) => data_any N R a n c K t v W h hK hv
  have KN := hide keyN
  have KD := hide keyD
  clear keyN keyD
  have A2 := rec_start h #[.string ⟨#[]⟩, .int .i64 0, .int .i64 0, .int .i64 0, .string ⟨#[]⟩] #[.string ⟨#[0]⟩, .int .i64 41, .int .i64 0, .int .i64 0, .string ⟨#[]⟩]
  clear h
  generalize hP : w.heap.size = P at *
  go_enter Try.func51, Try.ntmps51
  go_wp2_with fail
  generalize (w.alloc (.cells #[.string ⟨#[]⟩, .int .i64 0, .int .i64 0, .int .i64 0, .string ⟨#[]⟩] 86)).alloc (.cells #[.string ⟨#[0]⟩, .int .i64 41, .int .i64 0, .int .i64 0, .string ⟨#[]⟩] 86) = w0 at *
  refine (unhide KN K _ A2.ro 65536 65536 (by omega) (by omega) rfl).mono ?_
  rintro e w1 ⟨⟨cl, hcl, rfl⟩, hR1, hg1⟩
  have B1 := A2.call hR1 (A2.ro.next hg1)
  have A3 := B1.set 2 (.int .i64 (cl : Nat))
  obtain ⟨⟨x0, x1, x2, x3, x4⟩, y0, y1, y2, y3, y4⟩ := cells5 B1.xa
  have l1 := blk_lt B1.xa
  clear hR1 hg1 B1 A2
  go_wp2_with fail
  generalize w1.setCell ⟨P + 1, 2, none⟩ (.int .i64 (cl : Nat)) = w4 at *
  clear x0 x1 x2 x3 x4 y0 y1 y2 y3 y4 l1
  refine (unhide KN K _ A3.ro 4294967296 4294967296 (by omega) (by omega) rfl).mono ?_
  rintro e w1 ⟨⟨tl, htl, rfl⟩, hR1, hg1⟩
  have B1 := A3.call hR1 (A3.ro.next hg1)
  have A4 := B1.set 3 (.int .i64 (tl : Nat))
  obtain ⟨⟨x0, x1, x2, x3, x4⟩, y0, y1, y2, y3, y4⟩ := cells5 B1.xa
  have l1 := blk_lt B1.xa
  clear hR1 hg1 B1 A3
  go_wp2_with fail
  generalize w1.setCell ⟨P + 1, 3, none⟩ (.int .i64 (tl : Nat)) = w5 at *
  clear x0 x1 x2 x3 x4 y0 y1 y2 y3 y4 l1
  refine (unhide KD K _ A4.ro 41 _ (by omega) rfl).mono ?_
  rintro e w1 ⟨d, K2, hd, rfl, hR1, hK2, hf1⟩
  have HD := hide hd
  have B1 := A4.call hR1 hf1
  have A5 := B1.set 4 (.string d)
  obtain ⟨⟨x0, x1, x2, x3, x4⟩, y0, y1, y2, y3, y4⟩ := cells5 B1.xa
  have xa5 : (w1.setCell ⟨P + 1, 4, none⟩ (.string d)).heap[P + 1]? = some (.cells #[.string ⟨#[0]⟩, .int .i64 41, .int .i64 (cl : Nat), .int .i64 (tl : Nat), .string d] 86 (0, 0)) := A5.xa
  obtain ⟨⟨u0, u1, u2, u3, u4⟩, v0, v1, v2, v3, v4⟩ := cells5 xa5
  obtain ⟨⟨q0, q1, q2, q3, q4⟩, o0, o1, o2, o3, o4⟩ := cells5 A5.pa
  have l1 := blk_lt B1.xa
  have l2 := blk_lt B1.pa
  clear hR1 hf1 B1 A4 hd
  go_wp2_with fail
  obtain ⟨⟨g0, g1, g2, g3, g4⟩, _⟩ := cells5 (store5 A5.pa (.string ⟨#[0]⟩) (.int .i64 41) (.int .i64 (cl : Nat)) (.int .i64 (tl : Nat)) (.string d))
  have A6 := ((((A5.setP' 0 (.string ⟨#[0]⟩)).setP' 1 (.int .i64 41)).setP' 2 (.int .i64 (cl : Nat))).setP' 3 (.int .i64 (tl : Nat))).setP' 4 (.string d)
  refine bodyPost_ret (v := .agg #[.string ⟨#[0]⟩, .int .i64 41, .int .i64 (cl : Nat), .int .i64 (tl : Nat), .string d]) (by simp [results, Try.results51, go_sem, g0, g1, g2, g3, g4]) rfl ?_
  refine ⟨⟨⟨#[0]⟩, 41, cl, tl, d⟩, K2, ⟨(show wholeB ⟨#[0]⟩ = true by decide +kernel), ⟨?_, ?_⟩, ⟨?_, ?_⟩, ⟨?_, ?_⟩, ?_⟩, ⟨rfl, rfl⟩, rfl, A6.ro, by omega, A6.fr⟩
  · show (0 : Int) ≤ 41; omega
  · show (41 : Int) ≤ 65535; omega
  · show (0 : Int) ≤ (cl : Int); omega
  · show (cl : Int) ≤ 65535; omega
  · show (0 : Int) ≤ (tl : Int); omega
  · show (tl : Int) ≤ 4294967295; omega
  · exact unhide HD

end Go.Proofs.Ytdhobdmhnocbgaa

namespace Go.Proofs.Ytdhobdmhnocbgaa
open Go.RowKit Zr

set_option maxRecDepth 100000 in
set_option maxHeartbeats 16000000 in
theorem record_any (N R : Nat) (a : Option Addr) (n c : Nat) (K : List ByteArray) (w : World) (h : Ro w N R a n c K) (hK : K.length ≤ 800) :
    Calls Try.prog 91 #[.pointer (some ⟨R, 0, none⟩)] w fun e w' => RecOf w N R a n c K false e w' := by
  have keyN := fun (K : List ByteArray) W (h : Ro W N R a n c K) (m : Nat) (v : Int) (h1 : 0 < m) (h2 : m ≤ 4294967296) (hv : v = m) => next_any N R a n c K m v W h h1 (by omega) hv
  have keyM := fun (K : List ByteArray) W (h : Ro W N R a n c K) (hK : K.length ≤ 1000) => rolls_name N R a n c K W h hK
  have keyD := fun (K : List ByteArray) W (h : Ro W N R a n c K) (t : Nat) (v : Int) (hK : K.length ≤ 900) (hv : v = t) => data_any N R a n c K t v W h hK hv
  have KN := hide keyN
  have KM := hide keyM
  have KD := hide keyD
  clear keyN keyM keyD
  have A0 := rec_start h #[.string ⟨#[]⟩, .int .i64 0, .int .i64 0, .int .i64 0, .string ⟨#[]⟩] #[.string ⟨#[]⟩, .int .i64 0, .int .i64 0, .int .i64 0, .string ⟨#[]⟩]
  clear h
  generalize hP : w.heap.size = P at *
  go_enter Try.func91, Try.ntmps91
  go_wp2_with fail
  generalize (w.alloc (.cells #[.string ⟨#[]⟩, .int .i64 0, .int .i64 0, .int .i64 0, .string ⟨#[]⟩] 86)).alloc (.cells #[.string ⟨#[]⟩, .int .i64 0, .int .i64 0, .int .i64 0, .string ⟨#[]⟩] 86) = w0 at *
  refine (unhide KM K _ A0.ro (by omega)).mono ?_
  rintro e w1 ⟨s, hs, rfl, hR1, hf1⟩
  have HS := hide hs
  have B1 := A0.call hR1 hf1
  have A1 := B1.set 0 (.string s)
  obtain ⟨⟨x0, x1, x2, x3, x4⟩, y0, y1, y2, y3, y4⟩ := cells5 B1.xa
  have l1 := blk_lt B1.xa
  clear hs hR1 hf1 B1 A0
  have hK1 : (K ++ [s]).length ≤ K.length + 1 := by rw [List.length_append]; simp
  generalize K ++ [s] = K1 at *
  have A1' := A1.alloc (.cells #[.int .i64 1, .int .i64 2, .int .i64 5, .int .i64 6, .int .i64 12, .int .i64 16, .int .i64 28, .int .i64 33] 3)
  have hL := heap_alloc_new (w1.setCell ⟨P + 1, 0, none⟩ (.string s)) (.cells #[.int .i64 1, .int .i64 2, .int .i64 5, .int .i64 6, .int .i64 12, .int .i64 16, .int .i64 28, .int .i64 33] 3)
  rw [size_set] at hL
  clear A1
  go_wp2_with fail
  generalize (w1.setCell ⟨P + 1, 0, none⟩ (.string s)).alloc _ = w2 at *
  generalize w1.heap.size = L at *
  clear x0 x1 x2 x3 x4 y0 y1 y2 y3 y4 l1
  refine (unhide KN K1 _ A1'.ro 9 9 (by omega) (by omega) rfl).mono ?_
  rintro e w3 ⟨⟨k, hk, rfl⟩, hR3, hg3⟩
  have hf3 := A1'.ro.next hg3
  have A1 := A1'.call hR3 hf3
  have hL3 := hf3.kind _ _ _ _ hL (by decide) (by decide) (by decide)
  clear hR3 hg3 hf3 hL A1'
  by_cases ck : k < 8
  · obtain ⟨ty, hty, hty2⟩ := eight k ck
    have hcell := (cell_of_blk hL3 k).trans hty
    have lL := blk_lt hL3
    have A2 := A1.set 1 (.int .i64 (ty : Nat))
    obtain ⟨⟨x0, x1, x2, x3, x4⟩, y0, y1, y2, y3, y4⟩ := cells5 A1.xa
    have xa2 : (w3.setCell ⟨P + 1, 1, none⟩ (.int .i64 (ty : Nat))).heap[P + 1]? = some (.cells #[.string s, .int .i64 (ty : Nat), .int .i64 0, .int .i64 0, .string ⟨#[]⟩] 86 (0, 0)) := A2.xa
    obtain ⟨⟨u0, u1, u2, u3, u4⟩, v0, v1, v2, v3, v4⟩ := cells5 xa2
    have l1 := blk_lt A1.xa
    have hne : ((ty : Int) == 41) = false := beq_eq_false_iff_ne.2 (by omega)
    clear hL3 hty A1 xa2
    go_wp2_with fail
    generalize w3.setCell ⟨P + 1, 1, none⟩ (.int .i64 (ty : Nat)) = w3' at *
    clear x0 x1 x2 x3 x4 y0 y1 y2 y3 y4 l1 u0 u1 u2 u3 u4 v0 v1 v2 v3 v4 hcell lL
    refine (unhide KN K1 _ A2.ro 65536 65536 (by omega) (by omega) rfl).mono ?_
    rintro e w1 ⟨⟨cl, hcl, rfl⟩, hR1, hg1⟩
    have B1 := A2.call hR1 (A2.ro.next hg1)
    have A3 := B1.set 2 (.int .i64 (cl : Nat))
    obtain ⟨⟨x0, x1, x2, x3, x4⟩, y0, y1, y2, y3, y4⟩ := cells5 B1.xa
    have l1 := blk_lt B1.xa
    clear hR1 hg1 B1 A2
    go_wp2_with fail
    generalize w1.setCell ⟨P + 1, 2, none⟩ (.int .i64 (cl : Nat)) = w4 at *
    clear x0 x1 x2 x3 x4 y0 y1 y2 y3 y4 l1
    refine (unhide KN K1 _ A3.ro 4294967296 4294967296 (by omega) (by omega) rfl).mono ?_
    rintro e w1 ⟨⟨tl, htl, rfl⟩, hR1, hg1⟩
    have B1 := A3.call hR1 (A3.ro.next hg1)
    have A4 := B1.set 3 (.int .i64 (tl : Nat))
    obtain ⟨⟨x0, x1, x2, x3, x4⟩, y0, y1, y2, y3, y4⟩ := cells5 B1.xa
    have xa4 : (w1.setCell ⟨P + 1, 3, none⟩ (.int .i64 (tl : Nat))).heap[P + 1]? = some (.cells #[.string s, .int .i64 (ty : Nat), .int .i64 (cl : Nat), .int .i64 (tl : Nat), .string ⟨#[]⟩] 86 (0, 0)) := A4.xa
    obtain ⟨⟨u0, u1, u2, u3, u4⟩, v0, v1, v2, v3, v4⟩ := cells5 xa4
    have l1 := blk_lt B1.xa
    clear hR1 hg1 B1 A3
    go_wp2_with fail
    generalize w1.setCell ⟨P + 1, 3, none⟩ (.int .i64 (tl : Nat)) = w5 at *
    clear x0 x1 x2 x3 x4 y0 y1 y2 y3 y4 l1 u0 u1 u2 u3 u4 v0 v1 v2 v3 v4 xa4
    refine (unhide KD K1 _ A4.ro ty _ (by omega) rfl).mono ?_
    rintro e w1 ⟨d, K2, hd, rfl, hR1, hK2, hf1⟩
    have HD := hide hd
    have B1 := A4.call hR1 hf1
    have A5 := B1.set 4 (.string d)
    obtain ⟨⟨x0, x1, x2, x3, x4⟩, y0, y1, y2, y3, y4⟩ := cells5 B1.xa
    have xa5 : (w1.setCell ⟨P + 1, 4, none⟩ (.string d)).heap[P + 1]? = some (.cells #[.string s, .int .i64 (ty : Nat), .int .i64 (cl : Nat), .int .i64 (tl : Nat), .string d] 86 (0, 0)) := A5.xa
    obtain ⟨⟨u0, u1, u2, u3, u4⟩, v0, v1, v2, v3, v4⟩ := cells5 xa5
    obtain ⟨⟨q0, q1, q2, q3, q4⟩, o0, o1, o2, o3, o4⟩ := cells5 A5.pa
    have l1 := blk_lt B1.xa
    have l2 := blk_lt B1.pa
    clear hR1 hf1 B1 A4 hd
    go_wp2_with fail
    obtain ⟨⟨g0, g1, g2, g3, g4⟩, _⟩ := cells5 (store5 A5.pa (.string s) (.int .i64 (ty : Nat)) (.int .i64 (cl : Nat)) (.int .i64 (tl : Nat)) (.string d))
    have A6 := ((((A5.setP' 0 (.string s)).setP' 1 (.int .i64 (ty : Nat))).setP' 2 (.int .i64 (cl : Nat))).setP' 3 (.int .i64 (tl : Nat))).setP' 4 (.string d)
    refine bodyPost_ret (v := .agg #[.string s, .int .i64 (ty : Nat), .int .i64 (cl : Nat), .int .i64 (tl : Nat), .string d]) (by simp [results, Try.results91, go_sem, g0, g1, g2, g3, g4]) rfl ?_
    refine ⟨⟨s, ty, cl, tl, d⟩, K2, ⟨unhide HS, ⟨?_, ?_⟩, ⟨?_, ?_⟩, ⟨?_, ?_⟩, ?_⟩, by show (ty : Int) ≠ 41; omega, rfl, A6.ro, by omega, A6.fr⟩
    · show (0 : Int) ≤ (ty : Int); omega
    · show (ty : Int) ≤ 65535; omega
    · show (0 : Int) ≤ (cl : Int); omega
    · show (cl : Int) ≤ 65535; omega
    · show (0 : Int) ≤ (tl : Int); omega
    · show (tl : Int) ≤ 4294967295; omega
    · exact unhide HD
  · go_wp2_with fail
    refine (unhide KN K1 _ A1.ro 65536 65536 (by omega) (by omega) rfl).mono ?_
    rintro e w1 ⟨⟨ty, hty, rfl⟩, hR1, hg1⟩
    have B1 := A1.call hR1 (A1.ro.next hg1)
    have A2 := B1.set 1 (.int .i64 (ty : Nat))
    obtain ⟨⟨x0, x1, x2, x3, x4⟩, y0, y1, y2, y3, y4⟩ := cells5 B1.xa
    have xa2 : (w1.setCell ⟨P + 1, 1, none⟩ (.int .i64 (ty : Nat))).heap[P + 1]? = some (.cells #[.string s, .int .i64 (ty : Nat), .int .i64 0, .int .i64 0, .string ⟨#[]⟩] 86 (0, 0)) := A2.xa
    obtain ⟨⟨u0, u1, u2, u3, u4⟩, v0, v1, v2, v3, v4⟩ := cells5 xa2
    have l1 := blk_lt B1.xa
    clear hR1 hg1 B1 A1 hL3
    by_cases ct : ty = 41
    · subst ct
      have A3 := A2.set 1 (.int .i64 0)
      clear A2 xa2
      go_wp2_with fail
      generalize (w1.setCell ⟨P + 1, 1, none⟩ _).setCell ⟨P + 1, 1, none⟩ (.int .i64 0) = w3' at *
      clear x0 x1 x2 x3 x4 y0 y1 y2 y3 y4 l1 u0 u1 u2 u3 u4 v0 v1 v2 v3 v4 hty
      obtain ⟨ty, hty⟩ : ∃ ty : Nat, ty = 0 := ⟨_, rfl⟩
      have A2 : RecAt w N R a n c K1 P #[.string ⟨#[]⟩, .int .i64 0, .int .i64 0, .int .i64 0, .string ⟨#[]⟩] #[.string s, .int .i64 (ty : Nat), .int .i64 0, .int .i64 0, .string ⟨#[]⟩] w3' := by rw [hty]; exact A3
      have hty2 : ty < 65536 := by omega
      have hty3 : ty ≠ 41 := by omega
      clear A3 hty
      refine (unhide KN K1 _ A2.ro 65536 65536 (by omega) (by omega) rfl).mono ?_
      rintro e w1 ⟨⟨cl, hcl, rfl⟩, hR1, hg1⟩
      have B1 := A2.call hR1 (A2.ro.next hg1)
      have A3 := B1.set 2 (.int .i64 (cl : Nat))
      obtain ⟨⟨x0, x1, x2, x3, x4⟩, y0, y1, y2, y3, y4⟩ := cells5 B1.xa
      have l1 := blk_lt B1.xa
      clear hR1 hg1 B1 A2
      go_wp2_with fail
      generalize w1.setCell ⟨P + 1, 2, none⟩ (.int .i64 (cl : Nat)) = w4 at *
      clear x0 x1 x2 x3 x4 y0 y1 y2 y3 y4 l1
      refine (unhide KN K1 _ A3.ro 4294967296 4294967296 (by omega) (by omega) rfl).mono ?_
      rintro e w1 ⟨⟨tl, htl, rfl⟩, hR1, hg1⟩
      have B1 := A3.call hR1 (A3.ro.next hg1)
      have A4 := B1.set 3 (.int .i64 (tl : Nat))
      obtain ⟨⟨x0, x1, x2, x3, x4⟩, y0, y1, y2, y3, y4⟩ := cells5 B1.xa
      have xa4 : (w1.setCell ⟨P + 1, 3, none⟩ (.int .i64 (tl : Nat))).heap[P + 1]? = some (.cells #[.string s, .int .i64 (ty : Nat), .int .i64 (cl : Nat), .int .i64 (tl : Nat), .string ⟨#[]⟩] 86 (0, 0)) := A4.xa
      obtain ⟨⟨u0, u1, u2, u3, u4⟩, v0, v1, v2, v3, v4⟩ := cells5 xa4
      have l1 := blk_lt B1.xa
      clear hR1 hg1 B1 A3
      go_wp2_with fail
      generalize w1.setCell ⟨P + 1, 3, none⟩ (.int .i64 (tl : Nat)) = w5 at *
      clear x0 x1 x2 x3 x4 y0 y1 y2 y3 y4 l1 u0 u1 u2 u3 u4 v0 v1 v2 v3 v4 xa4
      refine (unhide KD K1 _ A4.ro ty _ (by omega) rfl).mono ?_
      rintro e w1 ⟨d, K2, hd, rfl, hR1, hK2, hf1⟩
      have HD := hide hd
      have B1 := A4.call hR1 hf1
      have A5 := B1.set 4 (.string d)
      obtain ⟨⟨x0, x1, x2, x3, x4⟩, y0, y1, y2, y3, y4⟩ := cells5 B1.xa
      have xa5 : (w1.setCell ⟨P + 1, 4, none⟩ (.string d)).heap[P + 1]? = some (.cells #[.string s, .int .i64 (ty : Nat), .int .i64 (cl : Nat), .int .i64 (tl : Nat), .string d] 86 (0, 0)) := A5.xa
      obtain ⟨⟨u0, u1, u2, u3, u4⟩, v0, v1, v2, v3, v4⟩ := cells5 xa5
      obtain ⟨⟨q0, q1, q2, q3, q4⟩, o0, o1, o2, o3, o4⟩ := cells5 A5.pa
      have l1 := blk_lt B1.xa
      have l2 := blk_lt B1.pa
      clear hR1 hf1 B1 A4 hd
      go_wp2_with fail
      obtain ⟨⟨g0, g1, g2, g3, g4⟩, _⟩ := cells5 (store5 A5.pa (.string s) (.int .i64 (ty : Nat)) (.int .i64 (cl : Nat)) (.int .i64 (tl : Nat)) (.string d))
      have A6 := ((((A5.setP' 0 (.string s)).setP' 1 (.int .i64 (ty : Nat))).setP' 2 (.int .i64 (cl : Nat))).setP' 3 (.int .i64 (tl : Nat))).setP' 4 (.string d)
      refine bodyPost_ret (v := .agg #[.string s, .int .i64 (ty : Nat), .int .i64 (cl : Nat), .int .i64 (tl : Nat), .string d]) (by simp [results, Try.results91, go_sem, g0, g1, g2, g3, g4]) rfl ?_
      refine ⟨⟨s, ty, cl, tl, d⟩, K2, ⟨unhide HS, ⟨?_, ?_⟩, ⟨?_, ?_⟩, ⟨?_, ?_⟩, ?_⟩, by show (ty : Int) ≠ 41; omega, rfl, A6.ro, by omega, A6.fr⟩
      · show (0 : Int) ≤ (ty : Int); omega
      · show (ty : Int) ≤ 65535; omega
      · show (0 : Int) ≤ (cl : Int); omega
      · show (cl : Int) ≤ 65535; omega
      · show (0 : Int) ≤ (tl : Int); omega
      · show (tl : Int) ≤ 4294967295; omega
      · exact unhide HD
    · have hne : ((ty : Int) == 41) = false := beq_eq_false_iff_ne.2 (by omega)
      clear xa2
      go_wp2_with fail
      generalize w1.setCell ⟨P + 1, 1, none⟩ (.int .i64 (ty : Nat)) = w3' at *
      clear x0 x1 x2 x3 x4 y0 y1 y2 y3 y4 l1 u0 u1 u2 u3 u4 v0 v1 v2 v3 v4
      refine (unhide KN K1 _ A2.ro 65536 65536 (by omega) (by omega) rfl).mono ?_
      rintro e w1 ⟨⟨cl, hcl, rfl⟩, hR1, hg1⟩
      have B1 := A2.call hR1 (A2.ro.next hg1)
      have A3 := B1.set 2 (.int .i64 (cl : Nat))
      obtain ⟨⟨x0, x1, x2, x3, x4⟩, y0, y1, y2, y3, y4⟩ := cells5 B1.xa
      have l1 := blk_lt B1.xa
      clear hR1 hg1 B1 A2
      go_wp2_with fail
      generalize w1.setCell ⟨P + 1, 2, none⟩ (.int .i64 (cl : Nat)) = w4 at *
      clear x0 x1 x2 x3 x4 y0 y1 y2 y3 y4 l1
      refine (unhide KN K1 _ A3.ro 4294967296 4294967296 (by omega) (by omega) rfl).mono ?_
      rintro e w1 ⟨⟨tl, htl, rfl⟩, hR1, hg1⟩
      have B1 := A3.call hR1 (A3.ro.next hg1)
      have A4 := B1.set 3 (.int .i64 (tl : Nat))
      obtain ⟨⟨x0, x1, x2, x3, x4⟩, y0, y1, y2, y3, y4⟩ := cells5 B1.xa
      have xa4 : (w1.setCell ⟨P + 1, 3, none⟩ (.int .i64 (tl : Nat))).heap[P + 1]? = some (.cells #[.string s, .int .i64 (ty : Nat), .int .i64 (cl : Nat), .int .i64 (tl : Nat), .string ⟨#[]⟩] 86 (0, 0)) := A4.xa
      obtain ⟨⟨u0, u1, u2, u3, u4⟩, v0, v1, v2, v3, v4⟩ := cells5 xa4
      have l1 := blk_lt B1.xa
      clear hR1 hg1 B1 A3
      go_wp2_with fail
      generalize w1.setCell ⟨P + 1, 3, none⟩ (.int .i64 (tl : Nat)) = w5 at *
      clear x0 x1 x2 x3 x4 y0 y1 y2 y3 y4 l1 u0 u1 u2 u3 u4 v0 v1 v2 v3 v4 xa4
      refine (unhide KD K1 _ A4.ro ty _ (by omega) rfl).mono ?_
      rintro e w1 ⟨d, K2, hd, rfl, hR1, hK2, hf1⟩
      have HD := hide hd
      have B1 := A4.call hR1 hf1
      have A5 := B1.set 4 (.string d)
      obtain ⟨⟨x0, x1, x2, x3, x4⟩, y0, y1, y2, y3, y4⟩ := cells5 B1.xa
      have xa5 : (w1.setCell ⟨P + 1, 4, none⟩ (.string d)).heap[P + 1]? = some (.cells #[.string s, .int .i64 (ty : Nat), .int .i64 (cl : Nat), .int .i64 (tl : Nat), .string d] 86 (0, 0)) := A5.xa
      obtain ⟨⟨u0, u1, u2, u3, u4⟩, v0, v1, v2, v3, v4⟩ := cells5 xa5
      obtain ⟨⟨q0, q1, q2, q3, q4⟩, o0, o1, o2, o3, o4⟩ := cells5 A5.pa
      have l1 := blk_lt B1.xa
      have l2 := blk_lt B1.pa
      clear hR1 hf1 B1 A4 hd
      go_wp2_with fail
      obtain ⟨⟨g0, g1, g2, g3, g4⟩, _⟩ := cells5 (store5 A5.pa (.string s) (.int .i64 (ty : Nat)) (.int .i64 (cl : Nat)) (.int .i64 (tl : Nat)) (.string d))
      have A6 := ((((A5.setP' 0 (.string s)).setP' 1 (.int .i64 (ty : Nat))).setP' 2 (.int .i64 (cl : Nat))).setP' 3 (.int .i64 (tl : Nat))).setP' 4 (.string d)
      refine bodyPost_ret (v := .agg #[.string s, .int .i64 (ty : Nat), .int .i64 (cl : Nat), .int .i64 (tl : Nat), .string d]) (by simp [results, Try.results91, go_sem, g0, g1, g2, g3, g4]) rfl ?_
      refine ⟨⟨s, ty, cl, tl, d⟩, K2, ⟨unhide HS, ⟨?_, ?_⟩, ⟨?_, ?_⟩, ⟨?_, ?_⟩, ?_⟩, by show (ty : Int) ≠ 41; omega, rfl, A6.ro, by omega, A6.fr⟩
      · show (0 : Int) ≤ (ty : Int); omega
      · show (ty : Int) ≤ 65535; omega
      · show (0 : Int) ≤ (cl : Int); omega
      · show (cl : Int) ≤ 65535; omega
      · show (0 : Int) ≤ (tl : Int); omega
      · show (tl : Int) ≤ 4294967295; omega
      · exact unhide HD

end Go.Proofs.Ytdhobdmhnocbgaa
