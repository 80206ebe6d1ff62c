/-
  Plain: a stream, cut into messages; a stream that comes in chunks.
-/
/-
  Walks over zonekeep: a node's name; records counted.
-/
/-
  Plain: the news with the greatest Inc of a node say all that the zone has of it.
-/
/-
  Walks over zonekeep: are the records of a node just what the news say?
-/
/-
  Walks over zonekeep: a node's name out of raw numbers; news of a node that is alive.
-/
/-
  Walks over zonekeep: news of a node that is alive.
-/
/-
  Walks over zonekeep: the least Inc above all that a list has of a node.
-/
/-
  Walks over zonekeep: one more among the news.
-/
/-
  Walks over zonekeep: fixed.
-/
/-
  Walks over zonekeep: Newest.
-/
import Derived.Test.YtdhobdmhnocbgaaGreatSMsgs
import Derived.Test.YtdhobdmhnocbgaaGreatSRefP
import Derived.Test.YtdhobdmhnocbgaaGreatSOpnE
import Derived.Test.YtdhobdmhnocbgaaGreatSRolH
import Derived.Test.YtdhobdmhnocbgaaGreatSMwG
namespace Go.Proofs.YtdhobdmhnocbgaaGreat.Zr

/-- The messages that are whole from k on, and how many bytes are left behind them. -/
def cutP (s : ByteArray) (k : Nat) : List ByteArray × Nat :=
  if _h : k + 2 ≤ s.size ∧ k + 2 + num s k 2 ≤ s.size then
    (s.extract (k + 2) (k + 2 + num s k 2) :: (cutP s (k + 2 + num s k 2)).1, (cutP s (k + 2 + num s k 2)).2)
  else ([], s.size - k)
termination_by s.size - k

/-- What is left behind the whole messages. -/
def leftP (s : ByteArray) : ByteArray := s.extract (s.size - (cutP s 0).2) s.size

end Go.Proofs.YtdhobdmhnocbgaaGreat.Zr

namespace Go.Proofs.YtdhobdmhnocbgaaGreat
open Go.RowKit Zr

set_option maxRecDepth 100000 in
set_option maxHeartbeats 2000000 in
theorem isNode_k (s : ByteArray) (w : World) (hs : s.size ≤ 281474976710656) :
    Calls Tryz.prog 125 #[.string s] w fun e w' => BoolIs (labelOk s) e ∧ w' = w := by
  go_enter Tryz.func125, Tryz.ntmps125
  go_wp2_with fail
  go_loop [3] (fun i => ∃ j : Nat, j ≤ s.size ∧ i = .int .i64 j ∧ Hid (∀ m, m < j → labC (bt s m))) (fun i => s.size - (intOf i).toNat)
  case atStart => exact ⟨0, Nat.zero_le _, rfl, hide fun m hm => by omega⟩
  case round =>
    obtain ⟨j, hj, rfl, HL⟩ := hrel
    by_cases cj : j < s.size
    · have hg := bt_get s j cj
      obtain ⟨c, hc⟩ : ∃ c, bt s j = c := ⟨_, rfl⟩
      rw [hc] at hg
      have HC := hide hc
      clear hc
      rcases seven c with h | h | h | h | h | h | h
      all_goals
        (first | have d1 : decide ((c : Int) < (97 : Int)) = true := decide_eq_true (by omega) | have d1 : decide ((c : Int) < (97 : Int)) = false := decide_eq_false (by omega))
        (first | have d2 : decide ((122 : Int) < (c : Int)) = true := decide_eq_true (by omega) | have d2 : decide ((122 : Int) < (c : Int)) = false := decide_eq_false (by omega))
        (first | have d3 : decide ((c : Int) < (48 : Int)) = true := decide_eq_true (by omega) | have d3 : decide ((c : Int) < (48 : Int)) = false := decide_eq_false (by omega))
        (first | have d4 : decide ((57 : Int) < (c : Int)) = true := decide_eq_true (by omega) | have d4 : decide ((57 : Int) < (c : Int)) = false := decide_eq_false (by omega))
        (first | have d5 : ((c : Int) != (45 : Int)) = true := bne_iff_ne.2 (by omega) | have d5 : ((c : Int) != (45 : Int)) = false := by rw [bne_eq_false_iff_eq]; omega)
        go_wp2_with fail
        first
          | (go_round
             case rel =>
               refine ⟨j + 1, by omega, by go_num, hide fun m hm => ?_⟩
               rcases Nat.lt_or_ge m j with k | k
               · exact unhide HL m k
               · have : m = j := by omega
                 subst this
                 rw [unhide HC]
                 unfold labC
                 omega
             case measure => simp [intOf]; omega)
          | (go_ret
             refine ⟨⟨_, rfl, ⟨fun h => by simp at h, fun h => ?_⟩⟩, rfl⟩
             have := h.1 j cj
             rw [unhide HC] at this
             unfold labC at this
             omega)
    · have e : j = s.size := by omega
      subst e
      by_cases c1 : 1 ≤ s.size
      · go_wp2_with fail
        go_ret
        refine ⟨⟨_, rfl, ?_⟩, rfl⟩
        simp only [decide_eq_true_eq]
        exact ⟨fun h => ⟨unhide HL, c1, by omega⟩, fun h => by have := h.2.2; omega⟩
      · go_wp2_with fail
        go_ret
        exact ⟨⟨_, rfl, ⟨fun h => by simp at h, fun h => absurd h.2.1 c1⟩⟩, rfl⟩

set_option maxRecDepth 100000 in
set_option maxHeartbeats 1000000 in
theorem host_k (s : ByteArray) (w : World) (h : s.size < 256) : Calls Tryz.prog 95 #[.string s] w fun e w' => e = .returned (.string (underP s)) ∧ Below w.heap.size w w' := by
  have HO := hide (one_owns w s.size h)
  have h1 : (one s.size).size = 1 := rfl
  obtain ⟨r, hr⟩ : ∃ r, underP s = r := ⟨_, rfl⟩
  have hr2 : one s.size ++ s ++ originB = r := hr
  rw [hr]
  have HR := hide hr2
  clear hr hr2
  obtain ⟨y, hy⟩ : ∃ y, one s.size = y := ⟨_, rfl⟩
  rw [hy] at HO h1 HR
  have hz : (y ++ s).size = 1 + s.size := by rw [ByteArray.size_append]; omega
  clear hy
  go_enter Tryz.func95, Tryz.ntmps95
  go_wp2_with fail
  rw [run_bytes_row _ 96 9 5 Tryz.underlying96 Tryz.underlying5 Tryz.underlying9 w.heap.size _ y (unhide HO)]
  go_wp2_with fail
  go_ret
  exact ⟨by rw [← unhide HR]; rfl, (Below.refl _ _).alloc (Nat.le_refl _) _⟩

/-- How many records have a name and a type. -/
def havP (z : List RI) (nm : ByteArray) (t : Int) : Nat := z.countP fun x => decide (x.name = nm ∧ x.ty = t)
def exaP (z : List RI) (nm : ByteArray) (t : Int) (d : ByteArray) : Nat := z.countP fun x => decide (x.name = nm ∧ x.ty = t ∧ x.data = d ∧ x.cl = 1 ∧ x.ttl = 30)
def offP (z : List RI) (nm : ByteArray) : Nat := z.countP fun x => decide (x.ty = 33 ∧ 6 < x.data.size ∧ x.data.extract 6 x.data.size = nm)

end Go.Proofs.YtdhobdmhnocbgaaGreat

namespace Go.Proofs.YtdhobdmhnocbgaaGreat
open Zr

/-- All else of the node is older. -/
def Older (l : List Ev) (e : Ev) : Prop := ∀ x, x ∈ l → goodE x → x.node = e.node → x.inc < e.inc

/-- A count that speaks of the nodes' own records and services alone. -/
structure Own (up : List Ev) (node : ByteArray) (p : RI → Bool) : Prop where
  head : ∀ x, x = madeR originB 6 x.data ∨ x = madeR originB 2 serverB → p x = false
  ali : ∀ a, a ≠ node ∨ isUp up node → bearP up a ≠ ⟨#[]⟩ → p (madeR (underP a) 5 (underP (bearP up a))) = false
  host : ∀ u, u.node ≠ node → ∀ x, x ∈ nodeR u → p x = false
  srv : ∀ u, u.node ≠ node → p (srvR u) = false

def kindOf (e : Ev) : Int := if e.addr.size = 16 then 28 else 1

/-- What the zone has of a node that is up. -/
structure Has (z : List RI) (e : Ev) : Prop where
  addr : havP z (underP e.node) 1 + havP z (underP e.node) 28 = 1
  text : havP z (underP e.node) 16 = if e.text = ⟨#[]⟩ then 0 else 1
  cname : havP z (underP e.node) 5 = 0
  off : offP z (underP e.node) = 1
  exA : exaP z (underP e.node) (kindOf e) e.addr = 1
  exT : e.text ≠ ⟨#[]⟩ → exaP z (underP e.node) 16 (one e.text.size ++ e.text) = 1
  exS : exaP z serviceB 33 (q4 0 ++ wd e.port.toNat ++ underP e.node) = 1

end Go.Proofs.YtdhobdmhnocbgaaGreat

namespace Go.Proofs.YtdhobdmhnocbgaaGreat
open Go.RowKit Zr

end Go.Proofs.YtdhobdmhnocbgaaGreat

namespace Go.Proofs.YtdhobdmhnocbgaaGreat
open Go.RowKit Zr

instance (c : Nat) : Decidable (labC c) := by unfold labC; exact inferInstance

def lettersB : ByteArray := ⟨#[97, 98, 99, 100, 101, 102, 103, 104, 105, 106, 107, 108, 109, 110, 111, 112, 113, 114, 115, 116, 117, 118, 119, 120, 121, 122, 48, 49, 50, 51, 52, 53, 54, 55, 56, 57, 45]⟩

theorem letters_at : ∀ k : Fin 37, labC (bt lettersB k.val) := by decide
theorem letter_one (k : Nat) (h : k < 37) : (lettersB.extract k (k + 1)).size = 1 ∧ labC (bt (lettersB.extract k (k + 1)) 0) := by
  have hz : lettersB.size = 37 := rfl
  refine ⟨by rw [size_extract' _ _ _ (by omega) (by omega)]; omega, ?_⟩
  rw [bt_ex _ _ _ _ (by omega) (by omega), Nat.add_zero]
  exact letters_at ⟨k, h⟩

/-- Letters so far. -/
def Lets (s : ByteArray) : Prop := ∀ i, i < s.size → labC (bt s i)
theorem lets_more {s : ByteArray} (h : Lets s) {k : Nat} (hk : k < 37) : Lets (s ++ lettersB.extract k (k + 1)) := by
  obtain ⟨h1, h2⟩ := letter_one k hk
  intro i hi
  rw [ByteArray.size_append, h1] at hi
  rw [bt_append]
  by_cases c : i < s.size
  · rw [if_pos c]; exact h i c
  · rw [if_neg c, show i - s.size = 0 by omega]; exact h2

/-- A list that stays where only the rolls turn. -/
def RowK (N : Nat) (w : World) (al : Option Addr) (l : List Ev) : Prop := ∃ M, ∀ W, RFrame N w W → RowAt W M al (evC l)
theorem RowK.call {N : Nat} {w w1 : World} {al : Option Addr} {l : List Ev} (h : RowK N w al l) (hf : RFrame N w w1) : RowK N w1 al l := by
  obtain ⟨M, h⟩ := h
  exact ⟨M, fun W hW => h W (hf.trans hW)⟩
def NodeOf (e : Ending) : Prop := ∃ s, e = .returned (.string s) ∧ labelOk s

set_option maxRecDepth 100000 in
set_option maxHeartbeats 4000000 in
theorem node_k (N R : Nat) (a : Option Addr) (n c : Nat) (K : List ByteArray) (l : List Ev) (al : Option Addr) (cl : Nat) (w : World) (h : Ro w N R a n c K) (hrow : RowK N w al l) (hl : l.length ≤ 16777216) (hz : EvSized l) :
    Calls Tryz.prog 96 #[.pointer (some ⟨R, 0, none⟩), .slice al l.length cl] w fun e w' => NodeOf e ∧ Ro w' N R a n c K ∧ RFrame N w w' := by
  have hlt := h.lt
  have k1 := next_any N R a n c K (l.length + 1) ((l.length : Int) + 1) w h (by omega) (by omega) (by omega)
  have k2 := fun W (h : Ro W N R a n c K) => next_any N R a n c K 15 15 W h (by omega) (by omega) rfl
  have k3 := fun W (h : Ro W N R a n c K) => next_any N R a n c K 37 37 W h (by omega) (by omega) rfl
  have H := hide h
  have HRow := hide hrow
  have HZ := hide hz
  have K1 := hide k1
  have K2 := hide k2
  have K3 := hide k3
  clear k1 k2 k3 h hrow hz
  go_enter Tryz.func96, Tryz.ntmps96
  go_wp2_with fail
  refine (unhide K1).mono ?_
  rintro e w1 ⟨⟨old, hold, rfl⟩, hR1, hg1⟩
  have HF1 := hide ((unhide H).next hg1)
  have HR1 := hide hR1
  obtain ⟨M1, hM1⟩ := unhide HRow
  have HRow1 := hide (hM1 _ ((unhide H).next hg1))
  clear hM1
  clear hR1 hg1 K1 H HRow
  have hcase : (∃ o1, old = o1 + 1 ∧ o1 < l.length) ∨ old = 0 := by
    rcases Nat.eq_zero_or_pos old with q | q
    · exact .inr q
    · exact .inl ⟨old - 1, by omega, by omega⟩
  rcases hcase with ⟨o1, rfl, hol⟩ | rfl
  · obtain ⟨b, o, rfl, hb, x0, x1, x2, x3, x4, x5, x6⟩ := row_e (unhide HRow1) o1 hol
    have hs1 := (unhide HZ o1 hol).1
    have key := fun W => isNode_k l[o1].node W (by omega)
    have Key := hide key
    generalize l[o1].node = nd at *
    have d0 : decide ((0 : Int) < (o1 : Int) + 1) = true := decide_eq_true (by omega)
    have d1 : (o1 : Int) < (l.length : Int) := by omega
    clear key
    go_wp2_with fail
    refine (unhide Key _).mono ?_
    rintro e w2 ⟨⟨bb, rfl, hbb⟩, rfl⟩
    have HBB := hide hbb
    clear hbb
    cases bb with
    | true =>
      go_wp2_with fail
      go_ret
      exact ⟨⟨nd, rfl, (unhide HBB).1 (by simp)⟩, unhide HR1, unhide HF1⟩
    | false =>
      go_wp2_with fail
      refine (unhide K2 _ (unhide HR1)).mono ?_
      rintro e w2 ⟨⟨nn, hnn, rfl⟩, hR2, hg2⟩
      have HF2 := hide ((unhide HF1).trans ((unhide HR1).next hg2))
      have HR2 := hide hR2
      clear hR2 hg2 K2 HR1 HF1
      go_wp2_with fail
      go_loopg [6, 8] (nn + 2) (fun g vs vi w' => ∃ (j : Nat) (s : ByteArray), vi = .int .i64 j ∧ j ≤ nn + 1 ∧ g = nn + 2 - j ∧ vs = .string s ∧ s.size = j ∧ Hid (Lets s) ∧ Hid (Ro w' N R a n c K) ∧ Hid (RFrame N w w'))
      case atStart => exact ⟨0, ⟨#[]⟩, rfl, Nat.zero_le _, rfl, rfl, rfl, hide (fun i hi => absurd hi (Nat.not_lt_zero i)), HR2, HF2⟩
      case round =>
        clear HR2 HF2
        obtain ⟨j, s, rfl, hj, rfl, rfl, hsj, HL, HR, HF⟩ := hrel
        by_cases cj : j < nn + 1
        · go_wp2_with fail
          refine (unhide K3 _ (unhide HR)).mono ?_
          rintro e w3 ⟨⟨q, hq, rfl⟩, hR3, hg3⟩
          have HF3 := hide ((unhide HF).trans ((unhide HR).next hg3))
          have HR3 := hide hR3
          have HL3 := hide (lets_more (unhide HL) hq)
          have hz3 : (s ++ lettersB.extract q (q + 1)).size = j + 1 := by rw [ByteArray.size_append, (letter_one q hq).1, hsj]
          have HZ3 := hide hz3
          clear hR3 hg3 HR HF HL hz3
          have hss : s.size ≤ 15 := by omega
          have HSJ := hide hsj
          clear hsj
          go_wp2_with fail
          go_roundg (nn + 2 - (j + 1))
          case measure => omega
          case rel => exact ⟨j + 1, s ++ lettersB.extract q (q + 1), by go_num, by omega, rfl, rfl, unhide HZ3, HL3, HR3, HF3⟩
        · have ej : j = nn + 1 := by omega
          go_wp2_with fail
          go_ret
          refine ⟨⟨s, rfl, unhide HL, by omega, by omega⟩, unhide HR, unhide HF⟩
  · skip
    · skip
      have d0 : decide ((0 : Int) < 0) = false := by decide
      go_wp2_with fail
      refine (unhide K2 _ (unhide HR1)).mono ?_
      rintro e w2 ⟨⟨nn, hnn, rfl⟩, hR2, hg2⟩
      have HF2 := hide ((unhide HF1).trans ((unhide HR1).next hg2))
      have HR2 := hide hR2
      clear hR2 hg2 K2 HR1 HF1
      go_wp2_with fail
      go_loopg [6, 8] (nn + 2) (fun g vs vi w' => ∃ (j : Nat) (s : ByteArray), vi = .int .i64 j ∧ j ≤ nn + 1 ∧ g = nn + 2 - j ∧ vs = .string s ∧ s.size = j ∧ Hid (Lets s) ∧ Hid (Ro w' N R a n c K) ∧ Hid (RFrame N w w'))
      case atStart => exact ⟨0, ⟨#[]⟩, rfl, Nat.zero_le _, rfl, rfl, rfl, hide (fun i hi => absurd hi (Nat.not_lt_zero i)), HR2, HF2⟩
      case round =>
        clear HR2 HF2
        obtain ⟨j, s, rfl, hj, rfl, rfl, hsj, HL, HR, HF⟩ := hrel
        by_cases cj : j < nn + 1
        · go_wp2_with fail
          refine (unhide K3 _ (unhide HR)).mono ?_
          rintro e w3 ⟨⟨q, hq, rfl⟩, hR3, hg3⟩
          have HF3 := hide ((unhide HF).trans ((unhide HR).next hg3))
          have HR3 := hide hR3
          have HL3 := hide (lets_more (unhide HL) hq)
          have hz3 : (s ++ lettersB.extract q (q + 1)).size = j + 1 := by rw [ByteArray.size_append, (letter_one q hq).1, hsj]
          have HZ3 := hide hz3
          clear hR3 hg3 HR HF HL hz3
          have hss : s.size ≤ 15 := by omega
          have HSJ := hide hsj
          clear hsj
          go_wp2_with fail
          go_roundg (nn + 2 - (j + 1))
          case measure => omega
          case rel => exact ⟨j + 1, s ++ lettersB.extract q (q + 1), by go_num, by omega, rfl, rfl, unhide HZ3, HL3, HR3, HF3⟩
        · have ej : j = nn + 1 := by omega
          go_wp2_with fail
          go_ret
          refine ⟨⟨s, rfl, unhide HL, by omega, by omega⟩, unhide HR, unhide HF⟩

end Go.Proofs.YtdhobdmhnocbgaaGreat

namespace Go.Proofs.YtdhobdmhnocbgaaGreat
open Go.RowKit Zr

/-- News of a node that is alive. -/
def AliveOf (nd : ByteArray) (ic : Int) (e : Ending) : Prop := ∃ x : Ev, e = .returned x.val ∧ x.kind = 1 ∧ x.node = nd ∧ x.inc = ic ∧ aliveOk x

theorem cells7 {w : World} {k : Nat} {a b c d e f g : Value} {t : TypeId} (h : w.heap[k]? = some (.cells #[a, b, c, d, e, f, g] t (0, 0))) :
    (w.cell? ⟨k, 0, none⟩ = some a ∧ w.cell? ⟨k, 1, none⟩ = some b ∧ w.cell? ⟨k, 2, none⟩ = some c ∧ w.cell? ⟨k, 3, none⟩ = some d ∧ w.cell? ⟨k, 4, none⟩ = some e ∧ w.cell? ⟨k, 5, none⟩ = some f ∧ w.cell? ⟨k, 6, none⟩ = some g) ∧
    w.frozen? ⟨k, 0, none⟩ = false ∧ w.frozen? ⟨k, 1, none⟩ = false ∧ w.frozen? ⟨k, 2, none⟩ = false ∧ w.frozen? ⟨k, 3, none⟩ = false ∧ w.frozen? ⟨k, 4, none⟩ = false ∧ w.frozen? ⟨k, 5, none⟩ = false ∧ w.frozen? ⟨k, 6, none⟩ = false := by
  refine ⟨⟨?_, ?_, ?_, ?_, ?_, ?_, ?_⟩, frozen_of_blk h _, frozen_of_blk h _, frozen_of_blk h _, frozen_of_blk h _, frozen_of_blk h _, frozen_of_blk h _, frozen_of_blk h _⟩ <;> (rw [cell_of_blk h]; rfl)

/-- Where news are being made: their block behind the result's, the rolls, what was there before. -/
structure EAt (w0 : World) (N R : Nat) (a : Option Addr) (n c : Nat) (K : List ByteArray) (P : Nat) (ps cs : Array Value) (w : World) : Prop where
  ro : Ro w N R a n c K
  pa : w.heap[P]? = some (.cells ps 48 (0, 0))
  xa : w.heap[P + 1]? = some (.cells cs 48 (0, 0))
  fr : RFrame N w0 w
  old : w0.heap.size ≤ P
  low : N ≤ P

theorem EAt.call {w0 w w1 : World} {N R : Nat} {a : Option Addr} {n c : Nat} {K K' : List ByteArray} {P : Nat} {ps cs : Array Value} (h : EAt w0 N R a n c K P ps cs w) (hr : Ro w1 N R a n c K') (hf : RFrame N w w1) : EAt w0 N R a n c K' P ps cs w1 :=
  ⟨hr, hf.kind _ _ _ _ h.pa (by decide) (by decide) (by decide), hf.kind _ _ _ _ h.xa (by decide) (by decide) (by decide), h.fr.trans hf, h.old, h.low⟩
theorem EAt.set {w0 w : World} {N R : Nat} {a : Option Addr} {n c : Nat} {K : List ByteArray} {P : Nat} {ps cs : Array Value} (h : EAt w0 N R a n c K P ps cs w) (o : Nat) (v : Value) : EAt w0 N R a n c K P ps (cs.setIfInBounds o v) (w.setCell ⟨P + 1, o, none⟩ v) :=
  ⟨h.ro.set h.xa (by decide) (by decide) (by have := h.low; omega) o v, (blk_set_other (by omega) _ _).trans h.pa, blk_set h.xa o v, h.fr.set (by have := h.old; omega) o v, h.old, h.low⟩
def Sz4 (m : Nat) : Prop := m = 4 ∨ m = 16

end Go.Proofs.YtdhobdmhnocbgaaGreat

namespace Go.Proofs.YtdhobdmhnocbgaaGreat
open Go.RowKit Zr

/-- The list without what a node has of the greatest Inc. -/
def restL (nd : ByteArray) (l : List Ev) : List Ev := l.filter fun x => !decide (x.node = nd ∧ x.inc = 2147483647)

/-- v is above all that the list has of the node below the greatest Inc. -/
def Above (nd : ByteArray) (l : List Ev) (v : Int) : Prop := ∀ x, x ∈ l → x.node = nd → x.inc < 2147483647 → x.inc < v

/-- What newest answers. -/
def NewOut (nd : ByteArray) (l : List Ev) (w : World) (e : Ending) (w' : World) : Prop :=
  ∃ (a : Option Addr) (c : Nat) (v : Nat), e = .returned (.tuple #[.slice a (restL nd l).length c, .int .i64 v]) ∧ v ≤ 2147483647 ∧ Above nd (restL nd l) v ∧ w'.ownsRow w.heap.size 48 7 (.slice a (restL nd l).length c) (restL nd l).length (evC (restL nd l)) ∧ Below w.heap.size w w'

end Go.Proofs.YtdhobdmhnocbgaaGreat

namespace Go.Proofs.YtdhobdmhnocbgaaGreat
open Go.RowKit Zr

theorem evC_cut (l : List Ev) (k : Nat) : evC l = evC (l.take k) ++ evC (l.drop k) := by rw [← evC_append, List.take_append_drop]
theorem evC_put (A B : List Ev) (x : Ev) : evC A ++ [.int .i64 x.kind, .string x.node, .int .i64 x.inc, .string x.addr, .int .i64 x.port, .string x.text, .string x.alias] ++ evC B = evC (A ++ x :: B) := by
  rw [evC_append, List.append_assoc]
  rfl

theorem owns_down {w : World} {N M : Nat} {e : TypeId} {size : Nat} {v : Value} {n : Nat} {xs : List Value} (h : w.ownsRow N e size v n xs) (hM : M ≤ N) : w.ownsRow M e size v n xs := by
  refine ⟨h.1, ?_⟩
  rcases h.2 with hn | ⟨g, cap, cur, hv, hbg, rest⟩
  · exact .inl hn
  · exact .inr ⟨g, cap, cur, hv, Nat.le_trans hM hbg, rest⟩

/-- A part of a row, to be appended. -/
theorem srcE_take {w : World} {N : Nat} {ax : Option Addr} {nx cx : Nat} {l : List Ev} (h : w.ownsRow N 48 7 (.slice ax nx cx) nx (evC l)) (hl : l.length = nx) (k cy : Nat) (hk : k ≤ nx) (hn : ax = none → cy = cx) : Src Tryz.prog 7 22 (.slice ax k cy) k (evC (l.take k)) w := by
  rcases h.2 with ⟨h0, _⟩ | ⟨g, cap, cur, h0, _⟩
  · cases h0
    have : k = 0 := by omega
    subst this
    rw [hn rfl]
    exact Src.ofNil _ Tryz.underlying22 0
  · cases h0
    refine Src.ofSlice _ Tryz.underlying22 ⟨g, 0, none⟩ k _ _ (by rw [evC_len, List.length_take]; congr 1; omega) (fun j u hu => ?_) (fun x hx => evC_one _ x hx)
    refine h.cells (g := g) rfl j u ?_
    rw [evC_cut l k, List.getElem?_append_left (List.getElem?_eq_some_iff.1 hu).1]
    exact hu

theorem srcE_drop {w : World} {N : Nat} {g nx cx : Nat} {l : List Ev} (h : w.ownsRow N 48 7 (.slice (some ⟨g, 0, none⟩) nx cx) nx (evC l)) (hl : l.length = nx) (k : Nat) (hk : k ≤ nx) (cy : Nat) : Src Tryz.prog 7 22 (.slice (some ⟨g, k * 7, none⟩) (nx - k) cy) (nx - k) (evC (l.drop k)) w := by
  refine Src.ofSlice _ Tryz.underlying22 ⟨g, k * 7, none⟩ (nx - k) _ _ (by rw [evC_len, List.length_drop]; congr 1; omega) (fun j u hu => ?_) (fun x hx => evC_one _ x hx)
  have e := h.cells (g := g) rfl (k * 7 + j) u (by
    rw [evC_cut l k, List.getElem?_append_right (by rw [evC_len, List.length_take]; omega), evC_len, List.length_take]
    rw [show k * 7 + j - min k l.length * 7 = j by rw [Nat.min_eq_left (by omega)]; omega]
    exact hu)
  rw [Addr.add_lit] at e ⊢
  rw [show k * 7 + j = k * 7 + j from rfl]
  simpa using e

/-- No more is to be appended. -/
theorem srcE_none {w : World} (a : Addr) (cy : Nat) : Src Tryz.prog 7 22 (.slice (some a) 0 cy) 0 [] w :=
  Src.ofSlice _ Tryz.underlying22 a 0 _ _ rfl (fun j u hu => by simp at hu) (fun x hx => by simp at hx)

/-- One more at any place. -/
def AmongOut (w : World) (l : List Ev) (x : Ev) (n : Nat) (e : Ending) (w' : World) : Prop := ∃ k, k ≤ n ∧ EvsOut w (l.take k ++ x :: l.drop k) e w'

set_option maxRecDepth 100000 in
set_option maxHeartbeats 8000000 in
theorem among_k (l : List Ev) (x : Ev) (v : Int) (a : Option Addr) (n c N : Nat) (w : World) (hrow : w.ownsRow N 48 7 (.slice a n c) n (evC l)) (hl : l.length = n) (hn : n ≤ 16777216) (h1 : -9223372036854775808 ≤ v) (h2 : v < 9223372036854775808) :
    Calls Tryz.prog 38 #[.slice a n c, .int .i64 v, x.val] w fun e w' => AmongOut w l x n e w' := by
  obtain ⟨kd, n0, ic, ad, pt, tx, al⟩ := x
  unfold Ev.val
  simp only
  obtain ⟨i0, hi, hz0, hz1, hz2⟩ := info_parts Tryz.info48
  have Hi := hide hi
  have Hz0 := hide hz0
  have Hz1 := hide hz1
  have Hz2 := hide hz2
  have kp := fun W => pick_any v (n + 1) ((n : Int) + 1) W h1 h2 (by omega) (by omega) (by omega)
  have KP := hide kp
  have HE := hide (heap_alloc_new w (.cells #[.int .i64 kd, .string n0, .int .i64 ic, .string ad, .int .i64 pt, .string tx, .string al] 48))
  have hB := (Below.refl w.heap.size w).alloc (Nat.le_refl _) (.cells #[.int .i64 kd, .string n0, .int .i64 ic, .string ad, .int .i64 pt, .string tx, .string al] 48)
  have HB := hide hB
  have HRo := hide (owns_below hrow hB)
  have HL := hide hl
  clear hi hz0 hz1 hz2 kp hB hrow hl h1 h2
  go_enter Tryz.func38, Tryz.ntmps38
  go_wp2_with fail
  refine (unhide KP _).mono ?_
  rintro e w1 ⟨⟨k, hk, rfl⟩, rfl⟩
  clear KP
  go_upto_region 3 with fail
  generalize w.alloc (.cells #[.int .i64 kd, .string n0, .int .i64 ic, .string ad, .int .i64 pt, .string tx, .string al] 48) = W at *
  generalize hO : w.heap.size = O at *
  have i1 : (0 : Int) ≤ (k : Int) := by omega
  have hkn : k ≤ n := by omega
  have HO := hide hO
  clear hO
  rcases (unhide HRo).2 with ⟨h0, hn0⟩ | ⟨g, cap, cur, h0, hbg, hgb, hrest⟩
  · cases h0
    obtain rfl : k = 0 := by omega
    go_upto_region 4 with (at_builtin; refine wpList_append_row _ rfl _ _ 22 22 rfl W.heap.size 48 i0 (.agg #[.int .i64 0, .string ⟨#[]⟩, .int .i64 0, .string ⟨#[]⟩, .int .i64 0, .string ⟨#[]⟩, .string ⟨#[]⟩]) 7 88 Tryz.underlying22 (unhide Hi) (unhide Hz0) (unhide Hz1) (unhide Hz2) rfl (.slice none 0 0) 0 [] (by rfl) (World.ownsRow_nil _ _ _ _) (.slice none 0 0) 0 (evC (l.take 0)) (by rfl) (Src.ofNil _ Tryz.underlying22 0) (by unfold maxLen; omega) (by omega) (Nat.le_refl _) ?_; intro a1 c1 w2 hown2 hgrow2 hat2; simp only [Nat.zero_add, List.nil_append] at hown2 ⊢; have hb2 := below_append (World.ownsRow_nil W W.heap.size 48 7) hgrow2 (Nat.le_refl _); clear hgrow2 hat2)
    obtain ⟨⟨o0, o1, o2, o3, o4, o5, o6⟩, _⟩ := cells7 ((hb2.block O (blk_lt (unhide HE))).trans (unhide HE))
    have s2 := hb2.size
    have lO : O < w2.heap.size := by have := blk_lt (unhide HE); omega
    go_upto_region 5 with (at_builtin; refine wpList_append_row _ rfl _ _ 22 22 rfl W.heap.size 48 i0 (.agg #[.int .i64 0, .string ⟨#[]⟩, .int .i64 0, .string ⟨#[]⟩, .int .i64 0, .string ⟨#[]⟩, .string ⟨#[]⟩]) 7 88 Tryz.underlying22 (unhide Hi) (unhide Hz0) (unhide Hz1) (unhide Hz2) rfl (.slice a1 0 c1) 0 (evC (l.take 0)) (by rfl) (hown2.alloc _) (.slice (some ⟨w2.heap.size, 0, none⟩) 1 1) 1 [.int .i64 kd, .string n0, .int .i64 ic, .string ad, .int .i64 pt, .string tx, .string al] (by rfl) (Src.ofSlice _ Tryz.underlying22 ⟨w2.heap.size, 0, none⟩ 1 1 _ rfl (cell_seven_new _ _ _ _ _ _ _ _ _ _ rfl) one7) (by unfold maxLen; omega) (by omega) (by simp; omega) ?_; intro a2 c2 w3 hown3 hgrow3 hat3; have hb3 := (hb2.alloc s2 _).trans (below_append (hown2.alloc _) hgrow3 (by simp; omega)); clear hgrow3 hat3)
    clear o0 o1 o2 o3 o4 o5 o6 lO hown2 hb2 s2
    have s3 := hb3.size
    have hro3 := owns_below (unhide HRo) hb3
    have HRo3 := hide hro3
    clear hro3
    obtain ⟨ny, hny⟩ : ∃ ny, 0 + 1 + 0 = ny := ⟨_, rfl⟩
    have HNY := hide hny
    have hlen : (l.take 0 ++ (⟨kd, n0, ic, ad, pt, tx, al⟩ : Ev) :: l.drop 0).length = ny := by rw [← hny, List.length_append, List.length_cons, List.length_take, List.length_drop]; have := unhide HL; omega
    have HLen := hide hlen
    clear hny hlen
    go_upto_region 6 with (at_builtin; (refine wpList_append_row _ rfl _ _ 22 22 rfl W.heap.size 48 i0 (.agg #[.int .i64 0, .string ⟨#[]⟩, .int .i64 0, .string ⟨#[]⟩, .int .i64 0, .string ⟨#[]⟩, .string ⟨#[]⟩]) 7 88 Tryz.underlying22 (unhide Hi) (unhide Hz0) (unhide Hz1) (unhide Hz2) rfl (.slice a2 (0 + 1) c2) (0 + 1) (evC (l.take 0) ++ [.int .i64 kd, .string n0, .int .i64 ic, .string ad, .int .i64 pt, .string tx, .string al]) (by rfl) hown3 (.slice none 0 0) (0) (evC (l.drop 0)) (by rfl) (by rw [List.drop_eq_nil_of_le (by rw [unhide HL]; omega)]; exact Src.ofNil _ Tryz.underlying22 _) (by unfold maxLen; omega) (by omega) s3 ?_; intro a3 c3 w4 hown4 hgrow4 hat4; have hb4 := hb3.trans (below_append hown3 hgrow4 s3); clear hgrow4 hat4; rw [unhide HNY] at hown4 ⊢))
    rw [evC_put _ _ ⟨kd, n0, ic, ad, pt, tx, al⟩] at hown4
    have hw : EvsOut w (l.take 0 ++ (⟨kd, n0, ic, ad, pt, tx, al⟩ : Ev) :: l.drop 0) (.returned (.slice a3 ny c3)) w4 := by
      have hOW : O ≤ W.heap.size := Nat.le_of_lt (blk_lt (unhide HE))
      refine ⟨a3, c3, by rw [unhide HLen], ?_, ?_⟩
      · rw [unhide HLen, unhide HO]; exact owns_down hown4 hOW
      · rw [unhide HO]; exact (unhide HB).trans (hb4.mono hOW)
    have HW := hide hw
    clear hw hown4 hb4 hown3 hb3 s3
    go_wp2_with fail
    go_ret
    exact ⟨0, by omega, unhide HW⟩
  · cases h0
    have hnc : n ≤ c := hrest.1
    clear hbg hgb hrest
    have q3 : (k : Int) ≤ (c : Int) := by omega
    have q4 : (k : Int) ≤ (n : Int) := by omega
    have q5 : k ≤ c := by omega
    by_cases ck : c = k
    · obtain rfl : k = c := ck.symm
      obtain rfl : k = n := by omega
      go_upto_region 4 with (at_builtin; refine wpList_append_row _ rfl _ _ 22 22 rfl W.heap.size 48 i0 (.agg #[.int .i64 0, .string ⟨#[]⟩, .int .i64 0, .string ⟨#[]⟩, .int .i64 0, .string ⟨#[]⟩, .string ⟨#[]⟩]) 7 88 Tryz.underlying22 (unhide Hi) (unhide Hz0) (unhide Hz1) (unhide Hz2) rfl (.slice none 0 0) 0 [] (by rfl) (World.ownsRow_nil _ _ _ _) (.slice (some ⟨g, 0, none⟩) k k) k (evC (l.take k)) (by rfl) (srcE_take (unhide HRo) (unhide HL) k _ (by omega) (fun h => by cases h)) (by unfold maxLen; omega) (by omega) (Nat.le_refl _) ?_; intro a1 c1 w2 hown2 hgrow2 hat2; simp only [Nat.zero_add, List.nil_append] at hown2 ⊢; have hb2 := below_append (World.ownsRow_nil W W.heap.size 48 7) hgrow2 (Nat.le_refl _); clear hgrow2 hat2)
      obtain ⟨⟨o0, o1, o2, o3, o4, o5, o6⟩, _⟩ := cells7 ((hb2.block O (blk_lt (unhide HE))).trans (unhide HE))
      have s2 := hb2.size
      have lO : O < w2.heap.size := by have := blk_lt (unhide HE); omega
      go_upto_region 5 with (at_builtin; refine wpList_append_row _ rfl _ _ 22 22 rfl W.heap.size 48 i0 (.agg #[.int .i64 0, .string ⟨#[]⟩, .int .i64 0, .string ⟨#[]⟩, .int .i64 0, .string ⟨#[]⟩, .string ⟨#[]⟩]) 7 88 Tryz.underlying22 (unhide Hi) (unhide Hz0) (unhide Hz1) (unhide Hz2) rfl (.slice a1 k c1) k (evC (l.take k)) (by rfl) (hown2.alloc _) (.slice (some ⟨w2.heap.size, 0, none⟩) 1 1) 1 [.int .i64 kd, .string n0, .int .i64 ic, .string ad, .int .i64 pt, .string tx, .string al] (by rfl) (Src.ofSlice _ Tryz.underlying22 ⟨w2.heap.size, 0, none⟩ 1 1 _ rfl (cell_seven_new _ _ _ _ _ _ _ _ _ _ rfl) one7) (by unfold maxLen; omega) (by omega) (by simp; omega) ?_; intro a2 c2 w3 hown3 hgrow3 hat3; have hb3 := (hb2.alloc s2 _).trans (below_append (hown2.alloc _) hgrow3 (by simp; omega)); clear hgrow3 hat3)
      clear o0 o1 o2 o3 o4 o5 o6 lO hown2 hb2 s2
      have s3 := hb3.size
      have hro3 := owns_below (unhide HRo) hb3
      have HRo3 := hide hro3
      clear hro3
      obtain ⟨ny, hny⟩ : ∃ ny, k + 1 + 0 = ny := ⟨_, rfl⟩
      have HNY := hide hny
      have hlen : (l.take k ++ (⟨kd, n0, ic, ad, pt, tx, al⟩ : Ev) :: l.drop k).length = ny := by rw [← hny, List.length_append, List.length_cons, List.length_take, List.length_drop]; have := unhide HL; omega
      have HLen := hide hlen
      clear hny hlen
      go_upto_region 6 with (at_builtin; (refine wpList_append_row _ rfl _ _ 22 22 rfl W.heap.size 48 i0 (.agg #[.int .i64 0, .string ⟨#[]⟩, .int .i64 0, .string ⟨#[]⟩, .int .i64 0, .string ⟨#[]⟩, .string ⟨#[]⟩]) 7 88 Tryz.underlying22 (unhide Hi) (unhide Hz0) (unhide Hz1) (unhide Hz2) rfl (.slice a2 (k + 1) c2) (k + 1) (evC (l.take k) ++ [.int .i64 kd, .string n0, .int .i64 ic, .string ad, .int .i64 pt, .string tx, .string al]) (by rfl) hown3 (.slice (some ⟨g, 0, none⟩) 0 0) (0) (evC (l.drop k)) (by rfl) (by rw [List.drop_eq_nil_of_le (by rw [unhide HL]; omega)]; exact srcE_none _ _) (by unfold maxLen; omega) (by omega) s3 ?_; intro a3 c3 w4 hown4 hgrow4 hat4; have hb4 := hb3.trans (below_append hown3 hgrow4 s3); clear hgrow4 hat4; rw [unhide HNY] at hown4 ⊢))
      rw [evC_put _ _ ⟨kd, n0, ic, ad, pt, tx, al⟩] at hown4
      have hw : EvsOut w (l.take k ++ (⟨kd, n0, ic, ad, pt, tx, al⟩ : Ev) :: l.drop k) (.returned (.slice a3 ny c3)) w4 := by
        have hOW : O ≤ W.heap.size := Nat.le_of_lt (blk_lt (unhide HE))
        refine ⟨a3, c3, by rw [unhide HLen], ?_, ?_⟩
        · rw [unhide HLen, unhide HO]; exact owns_down hown4 hOW
        · rw [unhide HO]; exact (unhide HB).trans (hb4.mono hOW)
      have HW := hide hw
      clear hw hown4 hb4 hown3 hb3 s3
      go_wp2_with fail
      go_ret
      exact ⟨k, by omega, unhide HW⟩
    · have hck : k < c := by omega
      go_upto_region 4 with (at_builtin; refine wpList_append_row _ rfl _ _ 22 22 rfl W.heap.size 48 i0 (.agg #[.int .i64 0, .string ⟨#[]⟩, .int .i64 0, .string ⟨#[]⟩, .int .i64 0, .string ⟨#[]⟩, .string ⟨#[]⟩]) 7 88 Tryz.underlying22 (unhide Hi) (unhide Hz0) (unhide Hz1) (unhide Hz2) rfl (.slice none 0 0) 0 [] (by rfl) (World.ownsRow_nil _ _ _ _) (.slice (some ⟨g, 0, none⟩) k c) k (evC (l.take k)) (by rfl) (srcE_take (unhide HRo) (unhide HL) k _ (by omega) (fun h => by cases h)) (by unfold maxLen; omega) (by omega) (Nat.le_refl _) ?_; intro a1 c1 w2 hown2 hgrow2 hat2; simp only [Nat.zero_add, List.nil_append] at hown2 ⊢; have hb2 := below_append (World.ownsRow_nil W W.heap.size 48 7) hgrow2 (Nat.le_refl _); clear hgrow2 hat2)
      obtain ⟨⟨o0, o1, o2, o3, o4, o5, o6⟩, _⟩ := cells7 ((hb2.block O (blk_lt (unhide HE))).trans (unhide HE))
      have s2 := hb2.size
      have lO : O < w2.heap.size := by have := blk_lt (unhide HE); omega
      go_upto_region 5 with (at_builtin; refine wpList_append_row _ rfl _ _ 22 22 rfl W.heap.size 48 i0 (.agg #[.int .i64 0, .string ⟨#[]⟩, .int .i64 0, .string ⟨#[]⟩, .int .i64 0, .string ⟨#[]⟩, .string ⟨#[]⟩]) 7 88 Tryz.underlying22 (unhide Hi) (unhide Hz0) (unhide Hz1) (unhide Hz2) rfl (.slice a1 k c1) k (evC (l.take k)) (by rfl) (hown2.alloc _) (.slice (some ⟨w2.heap.size, 0, none⟩) 1 1) 1 [.int .i64 kd, .string n0, .int .i64 ic, .string ad, .int .i64 pt, .string tx, .string al] (by rfl) (Src.ofSlice _ Tryz.underlying22 ⟨w2.heap.size, 0, none⟩ 1 1 _ rfl (cell_seven_new _ _ _ _ _ _ _ _ _ _ rfl) one7) (by unfold maxLen; omega) (by omega) (by simp; omega) ?_; intro a2 c2 w3 hown3 hgrow3 hat3; have hb3 := (hb2.alloc s2 _).trans (below_append (hown2.alloc _) hgrow3 (by simp; omega)); clear hgrow3 hat3)
      clear o0 o1 o2 o3 o4 o5 o6 lO hown2 hb2 s2
      have s3 := hb3.size
      have hro3 := owns_below (unhide HRo) hb3
      have HRo3 := hide hro3
      clear hro3
      obtain ⟨ny, hny⟩ : ∃ ny, k + 1 + (n - k) = ny := ⟨_, rfl⟩
      have HNY := hide hny
      have hlen : (l.take k ++ (⟨kd, n0, ic, ad, pt, tx, al⟩ : Ev) :: l.drop k).length = ny := by rw [← hny, List.length_append, List.length_cons, List.length_take, List.length_drop]; have := unhide HL; omega
      have HLen := hide hlen
      clear hny hlen
      go_upto_region 6 with (at_builtin; (refine wpList_append_row _ rfl _ _ 22 22 rfl W.heap.size 48 i0 (.agg #[.int .i64 0, .string ⟨#[]⟩, .int .i64 0, .string ⟨#[]⟩, .int .i64 0, .string ⟨#[]⟩, .string ⟨#[]⟩]) 7 88 Tryz.underlying22 (unhide Hi) (unhide Hz0) (unhide Hz1) (unhide Hz2) rfl (.slice a2 (k + 1) c2) (k + 1) (evC (l.take k) ++ [.int .i64 kd, .string n0, .int .i64 ic, .string ad, .int .i64 pt, .string tx, .string al]) (by rfl) hown3 (.slice (some ⟨g, k * 7, none⟩) (n - k) (c - k)) (n - k) (evC (l.drop k)) (by rfl) (srcE_drop (unhide HRo3) (unhide HL) k (by omega) _) (by unfold maxLen; omega) (by omega) s3 ?_; intro a3 c3 w4 hown4 hgrow4 hat4; have hb4 := hb3.trans (below_append hown3 hgrow4 s3); clear hgrow4 hat4; rw [unhide HNY] at hown4 ⊢))
      rw [evC_put _ _ ⟨kd, n0, ic, ad, pt, tx, al⟩] at hown4
      have hw : EvsOut w (l.take k ++ (⟨kd, n0, ic, ad, pt, tx, al⟩ : Ev) :: l.drop k) (.returned (.slice a3 ny c3)) w4 := by
        have hOW : O ≤ W.heap.size := Nat.le_of_lt (blk_lt (unhide HE))
        refine ⟨a3, c3, by rw [unhide HLen], ?_, ?_⟩
        · rw [unhide HLen, unhide HO]; exact owns_down hown4 hOW
        · rw [unhide HO]; exact (unhide HB).trans (hb4.mono hOW)
      have HW := hide hw
      clear hw hown4 hb4 hown3 hb3 s3
      go_wp2_with fail
      go_ret
      exact ⟨k, by omega, unhide HW⟩

end Go.Proofs.YtdhobdmhnocbgaaGreat

namespace Go.Proofs.YtdhobdmhnocbgaaGreat
open Go.RowKit Zr

theorem parse_first : parseP ⟨#[0, 1, 0, 0, 0, 1, 0, 0, 0, 0, 0, 0, 1, 97, 0, 0, 1, 0, 1]⟩ = .ok ⟨1, 0, [⟨⟨#[1, 97, 0]⟩, 1, 1⟩], [], [], []⟩ := by kernel_rfl

set_option maxRecDepth 100000 in
set_option maxHeartbeats 2000000 in
theorem begins_n (w : World) : Calls Tryz.prog 32 #[] w fun e w' => e = .returned (.bool true) ∧ Below w.heap.size w w' := by
  have hps := zoneParse_any ⟨#[0, 1, 0, 0, 0, 1, 0, 0, 0, 0, 0, 0, 1, 97, 0, 0, 1, 0, 1]⟩ w (by decide)
  rw [parse_first] at hps
  have HPS := hide hps
  clear hps
  go_enter Tryz.func32, Tryz.ntmps32
  go_wp2_with fail
  refine (unhide HPS).mono ?_
  rintro e w1 ⟨v, rfl, hmi, hb1⟩
  have hmi' : MsgIs w1 w.heap.size v ⟨1, 0, [⟨⟨#[1, 97, 0]⟩, 1, 1⟩], [], [], []⟩ := hmi
  obtain ⟨a1, c1, a2, c2, a3, c3, a4, c4, rfl, o1, _⟩ := hmi'
  obtain ⟨g, cap, hg, _⟩ := o1.form (by decide)
  cases hg
  have x0 := o1.cells (g := g) rfl 0 (.string ⟨#[1, 97, 0]⟩) rfl
  simp only [Addr.add_lit, List.length_cons, List.length_nil, Nat.zero_add] at x0 ⊢
  have HB := hide hb1
  clear hmi HPS o1 hb1
  go_wp2_with fail
  go_ret
  exact ⟨rfl, (unhide HB).alloc (unhide HB).size _⟩

theorem records_nil : ∃ s, recordsP [] = [madeR originB 6 s, madeR originB 2 serverB] := ⟨soaB (serTo [] 0).toNat, by
  have hu : upP [] = [] := rfl
  unfold recordsP
  rw [hu]
  rfl⟩

set_option maxRecDepth 100000 in
set_option maxHeartbeats 2000000 in
theorem fixed_k (w : World) : Calls Tryz.prog 10 #[] w fun e w' => e = .returned (.bool true) ∧ Below w.heap.size w w' := by
  have k1 := begins_n w
  have k2 := fun W => records_z [] none 0 0 W (fun h => absurd rfl h) (Nat.zero_le _) (by simp) (fun i h => by simp at h)
  obtain ⟨s, hs⟩ := records_nil
  rw [hs] at k2
  have K1 := hide k1
  have K2 := hide k2
  clear k1 k2 hs
  go_enter Tryz.func10, Tryz.ntmps10
  go_wp2_with fail
  refine (unhide K1).mono ?_
  rintro e w1 ⟨rfl, hb1⟩
  have HB1 := hide hb1
  clear hb1 K1
  go_wp2_with fail
  refine (unhide K2 _).mono ?_
  rintro e w2 ⟨a, c, rfl, o1, hb2⟩
  obtain ⟨g, cap, hg, _⟩ := o1.form (Nat.zero_lt_succ _)
  cases hg
  have x0 := o1.cells (g := g) rfl 0 (.string originB) rfl
  have x1 := o1.cells (g := g) rfl 1 (.int .i64 6) rfl
  have x2 := o1.cells (g := g) rfl 6 (.int .i64 2) rfl
  simp only [Addr.add_lit, List.length_cons, List.length_nil, Nat.zero_add] at x0 x1 x2 ⊢
  have HB := hide ((unhide HB1).trans (hb2.mono (unhide HB1).size))
  clear hb2 K2 o1 HB1
  unfold originB at x0
  go_wp2_with fail
  go_ret
  exact ⟨rfl, unhide HB⟩

end Go.Proofs.YtdhobdmhnocbgaaGreat

namespace Go.Proofs.YtdhobdmhnocbgaaGreat
open Go.RowKit Zr

theorem own_atN {w : World} {N : Nat} {e : TypeId} {size : Nat} {a : Option Addr} {n c : Nat} {xs : List Value} (h : w.ownsRow N e size (.slice a n c) n xs) : RowAt w w.heap.size a xs := by
  intro hx
  rcases h.2 with ⟨_, h0⟩ | ⟨g, cap, cur, h0, _, hg, _⟩
  · have := h.1
    rw [h0, Nat.zero_mul] at this
    exact absurd (List.eq_nil_of_length_eq_zero this) hx
  · cases h0
    refine ⟨g, 0, rfl, blk_lt hg, fun j u hu => ?_⟩
    have e := h.cells (g := g) rfl j u hu
    rw [Addr.add_lit] at e
    exact e

end Go.Proofs.YtdhobdmhnocbgaaGreat
