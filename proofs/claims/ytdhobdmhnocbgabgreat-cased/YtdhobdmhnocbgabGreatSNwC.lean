/-
  Plain: a stream, cut into messages; a stream that comes in chunks.
-/
/-
  Walks over zonekeep: a node's name; records counted.
-/
/-
  Plain: the news with the greatest Inc of a node say all that the zone has of it.
-/
/-
  Walks over zonekeep: are the records of a node just what the news say?
-/
/-
  Walks over zonekeep: a node's name out of raw numbers; news of a node that is alive.
-/
import Derived.Test.YtdhobdmhnocbgabGreatSMsgs
import Derived.Test.YtdhobdmhnocbgabGreatSRefP
import Derived.Test.YtdhobdmhnocbgabGreatSOpnW
import Derived.Test.YtdhobdmhnocbgabGreatSRolH
namespace Go.Proofs.YtdhobdmhnocbgabGreat.Zr

/-- The messages that are whole from k on, and how many bytes are left behind them. -/
def cutP (s : ByteArray) (k : Nat) : List ByteArray × Nat :=
  if _h : k + 2 ≤ s.size ∧ k + 2 + num s k 2 ≤ s.size then
    (s.extract (k + 2) (k + 2 + num s k 2) :: (cutP s (k + 2 + num s k 2)).1, (cutP s (k + 2 + num s k 2)).2)
  else ([], s.size - k)
termination_by s.size - k

/-- What is left behind the whole messages. -/
def leftP (s : ByteArray) : ByteArray := s.extract (s.size - (cutP s 0).2) s.size

end Go.Proofs.YtdhobdmhnocbgabGreat.Zr

namespace Go.Proofs.YtdhobdmhnocbgabGreat
open Go.RowKit Zr

set_option maxRecDepth 100000 in
set_option maxHeartbeats 2000000 in
theorem isNode_k (s : ByteArray) (w : World) (hs : s.size ≤ 9223372036854775807) :
    Calls Tryz.prog 40 #[.string s] w fun e w' => BoolIs (labelOk s) e ∧ w' = w := by
  go_enter Tryz.func40, Tryz.ntmps40
  go_wp2_with fail
  go_loop [3] (fun i => ∃ j : Nat, j ≤ s.size ∧ i = .int .i64 j ∧ Hid (∀ m, m < j → labC (bt s m))) (fun i => s.size - (intOf i).toNat)
  case atStart => exact ⟨0, Nat.zero_le _, rfl, hide fun m hm => by omega⟩
  case round =>
    obtain ⟨j, hj, rfl, HL⟩ := hrel
    by_cases cj : j < s.size
    · have hg := bt_get s j cj
      obtain ⟨c, hc⟩ : ∃ c, bt s j = c := ⟨_, rfl⟩
      rw [hc] at hg
      have HC := hide hc
      clear hc
      rcases seven c with h | h | h | h | h | h | h
      all_goals
        (first | have d1 : decide ((c : Int) < (97 : Int)) = true := decide_eq_true (by omega) | have d1 : decide ((c : Int) < (97 : Int)) = false := decide_eq_false (by omega))
        (first | have d2 : decide ((122 : Int) < (c : Int)) = true := decide_eq_true (by omega) | have d2 : decide ((122 : Int) < (c : Int)) = false := decide_eq_false (by omega))
        (first | have d3 : decide ((c : Int) < (48 : Int)) = true := decide_eq_true (by omega) | have d3 : decide ((c : Int) < (48 : Int)) = false := decide_eq_false (by omega))
        (first | have d4 : decide ((57 : Int) < (c : Int)) = true := decide_eq_true (by omega) | have d4 : decide ((57 : Int) < (c : Int)) = false := decide_eq_false (by omega))
        (first | have d5 : ((c : Int) != (45 : Int)) = true := bne_iff_ne.2 (by omega) | have d5 : ((c : Int) != (45 : Int)) = false := by rw [bne_eq_false_iff_eq]; omega)
        go_wp2_with fail
        first
          | (go_round
             case rel =>
               refine ⟨j + 1, by omega, by go_num, hide fun m hm => ?_⟩
               rcases Nat.lt_or_ge m j with k | k
               · exact unhide HL m k
               · have : m = j := by omega
                 subst this
                 rw [unhide HC]
                 unfold labC
                 omega
             case measure => simp [intOf]; omega)
          | (go_ret
             refine ⟨⟨_, rfl, ⟨fun h => by simp at h, fun h => ?_⟩⟩, rfl⟩
             have := h.1 j cj
             rw [unhide HC] at this
             unfold labC at this
             omega)
    · have e : j = s.size := by omega
      subst e
      by_cases c1 : 1 ≤ s.size
      · go_wp2_with fail
        go_ret
        refine ⟨⟨_, rfl, ?_⟩, rfl⟩
        simp only [decide_eq_true_eq]
        exact ⟨fun h => ⟨unhide HL, c1, by omega⟩, fun h => by have := h.2.2; omega⟩
      · go_wp2_with fail
        go_ret
        exact ⟨⟨_, rfl, ⟨fun h => by simp at h, fun h => absurd h.2.1 c1⟩⟩, rfl⟩

set_option maxRecDepth 100000 in
set_option maxHeartbeats 1000000 in
theorem host_k (s : ByteArray) (w : World) (h : s.size < 256) : Calls Tryz.prog 24 #[.string s] w fun e w' => e = .returned (.string (underP s)) ∧ Below w.heap.size w w' := by
  have HO := hide (one_owns w s.size h)
  have h1 : (one s.size).size = 1 := rfl
  obtain ⟨r, hr⟩ : ∃ r, underP s = r := ⟨_, rfl⟩
  have hr2 : one s.size ++ s ++ originB = r := hr
  rw [hr]
  have HR := hide hr2
  clear hr hr2
  obtain ⟨y, hy⟩ : ∃ y, one s.size = y := ⟨_, rfl⟩
  rw [hy] at HO h1 HR
  have hz : (y ++ s).size = 1 + s.size := by rw [ByteArray.size_append]; omega
  clear hy
  go_enter Tryz.func24, Tryz.ntmps24
  go_wp2_with fail
  rw [run_bytes_row _ 70 9 5 Tryz.underlying70 Tryz.underlying5 Tryz.underlying9 w.heap.size _ y (unhide HO)]
  go_wp2_with fail
  go_ret
  exact ⟨by rw [← unhide HR]; rfl, (Below.refl _ _).alloc (Nat.le_refl _) _⟩

/-- How many records have a name and a type. -/
def havP (z : List RI) (nm : ByteArray) (t : Int) : Nat := z.countP fun x => decide (x.name = nm ∧ x.ty = t)
def exaP (z : List RI) (nm : ByteArray) (t : Int) (d : ByteArray) : Nat := z.countP fun x => decide (x.name = nm ∧ x.ty = t ∧ x.data = d ∧ x.cl = 1 ∧ x.ttl = 30)
def offP (z : List RI) (nm : ByteArray) : Nat := z.countP fun x => decide (x.ty = 33 ∧ 6 < x.data.size ∧ x.data.extract 6 x.data.size = nm)

end Go.Proofs.YtdhobdmhnocbgabGreat

namespace Go.Proofs.YtdhobdmhnocbgabGreat
open Zr

theorem under_size (s : ByteArray) : (underP s).size = s.size + 11 := by
  unfold underP
  rw [ByteArray.size_append, ByteArray.size_append]
  show 1 + s.size + 10 = _
  omega
/-- All else of the node is older. -/
def Older (l : List Ev) (e : Ev) : Prop := ∀ x, x ∈ l → goodE x → x.node = e.node → x.inc < e.inc

theorem cnt_zero {p : RI → Bool} {l : List RI} (h : ∀ x, x ∈ l → p x = false) : l.countP p = 0 := by
  rw [List.countP_eq_zero]
  intro x hx
  rw [h x hx]
  simp

/-- A count that speaks of the nodes' own records and services alone. -/
structure Own (up : List Ev) (node : ByteArray) (p : RI → Bool) : Prop where
  head : ∀ x, x = madeR originB 6 x.data ∨ x = madeR originB 2 serverB → p x = false
  ali : ∀ a, a ≠ node ∨ isUp up node → bearP up a ≠ ⟨#[]⟩ → p (madeR (underP a) 5 (underP (bearP up a))) = false
  host : ∀ u, u.node ≠ node → ∀ x, x ∈ nodeR u → p x = false
  srv : ∀ u, u.node ≠ node → p (srvR u) = false

theorem nodeR_name {u : Ev} {x : RI} (h : x ∈ nodeR u) : x.name = underP u.node ∧ (x.ty = 1 ∨ x.ty = 28 ∨ x.ty = 16) ∧ x.cl = 1 ∧ x.ttl = 30 := by
  unfold nodeR at h
  rcases List.mem_cons.1 h with rfl | h
  · refine ⟨rfl, ?_, rfl, rfl⟩
    show (if u.addr.size = 16 then (28 : Int) else 1) = 1 ∨ _ = 28 ∨ _
    split
    · exact .inr (.inl rfl)
    · exact .inl rfl
  · split at h
    · simp at h
    · rw [List.mem_singleton] at h
      subst h
      exact ⟨rfl, .inr (.inr rfl), rfl, rfl⟩

def kindOf (e : Ev) : Int := if e.addr.size = 16 then 28 else 1

/-- What the zone has of a node that is up. -/
structure Has (z : List RI) (e : Ev) : Prop where
  addr : havP z (underP e.node) 1 + havP z (underP e.node) 28 = 1
  text : havP z (underP e.node) 16 = if e.text = ⟨#[]⟩ then 0 else 1
  cname : havP z (underP e.node) 5 = 0
  off : offP z (underP e.node) = 1
  exA : exaP z (underP e.node) (kindOf e) e.addr = 1
  exT : e.text ≠ ⟨#[]⟩ → exaP z (underP e.node) 16 (one e.text.size ++ e.text) = 1
  exS : exaP z serviceB 33 (q4 0 ++ wd e.port.toNat ++ underP e.node) = 1

theorem nodeR_count (e : Ev) (p : RI → Bool) : (nodeR e).countP p = (if p (madeR (underP e.node) (kindOf e) e.addr) then 1 else 0) + (if e.text = ⟨#[]⟩ then 0 else if p (madeR (underP e.node) 16 (one e.text.size ++ e.text)) then 1 else 0) := by
  have e0 : nodeR e = madeR (underP e.node) (kindOf e) e.addr :: (if e.text = ⟨#[]⟩ then [] else [madeR (underP e.node) 16 (one e.text.size ++ e.text)]) := rfl
  rw [e0, List.countP_cons]
  by_cases c : e.text = ⟨#[]⟩
  · rw [if_pos c, if_pos c, List.countP_nil]
    omega
  · rw [if_neg c, if_neg c, List.countP_cons, List.countP_nil]
    omega

theorem kind_of (e : Ev) : kindOf e = 1 ∨ kindOf e = 28 := by
  unfold kindOf
  split
  · exact .inr rfl
  · exact .inl rfl

end Go.Proofs.YtdhobdmhnocbgabGreat

namespace Go.Proofs.YtdhobdmhnocbgabGreat
open Go.RowKit Zr

end Go.Proofs.YtdhobdmhnocbgabGreat

namespace Go.Proofs.YtdhobdmhnocbgabGreat
open Go.RowKit Zr

instance (c : Nat) : Decidable (labC c) := by unfold labC; exact inferInstance

def lettersB : ByteArray := ⟨#[97, 98, 99, 100, 101, 102, 103, 104, 105, 106, 107, 108, 109, 110, 111, 112, 113, 114, 115, 116, 117, 118, 119, 120, 121, 122, 48, 49, 50, 51, 52, 53, 54, 55, 56, 57, 45]⟩

theorem letters_at : ∀ k : Fin 37, labC (bt lettersB k.val) := by decide
theorem letter_one (k : Nat) (h : k < 37) : (lettersB.extract k (k + 1)).size = 1 ∧ labC (bt (lettersB.extract k (k + 1)) 0) := by
  have hz : lettersB.size = 37 := rfl
  refine ⟨by rw [size_extract' _ _ _ (by omega) (by omega)]; omega, ?_⟩
  rw [bt_ex _ _ _ _ (by omega) (by omega), Nat.add_zero]
  exact letters_at ⟨k, h⟩

/-- Letters so far. -/
def Lets (s : ByteArray) : Prop := ∀ i, i < s.size → labC (bt s i)
theorem lets_more {s : ByteArray} (h : Lets s) {k : Nat} (hk : k < 37) : Lets (s ++ lettersB.extract k (k + 1)) := by
  obtain ⟨h1, h2⟩ := letter_one k hk
  intro i hi
  rw [ByteArray.size_append, h1] at hi
  rw [bt_append]
  by_cases c : i < s.size
  · rw [if_pos c]; exact h i c
  · rw [if_neg c, show i - s.size = 0 by omega]; exact h2

/-- A list that stays where only the rolls turn. -/
def RowK (N : Nat) (w : World) (al : Option Addr) (l : List Ev) : Prop := ∃ M, ∀ W, RFrame N w W → RowAt W M al (evC l)
theorem RowK.call {N : Nat} {w w1 : World} {al : Option Addr} {l : List Ev} (h : RowK N w al l) (hf : RFrame N w w1) : RowK N w1 al l := by
  obtain ⟨M, h⟩ := h
  exact ⟨M, fun W hW => h W (hf.trans hW)⟩
def NodeOf (e : Ending) : Prop := ∃ s, e = .returned (.string s) ∧ labelOk s

set_option maxRecDepth 100000 in
set_option maxHeartbeats 4000000 in
theorem node_k (N R : Nat) (a : Option Addr) (n c : Nat) (K : List ByteArray) (l : List Ev) (al : Option Addr) (cl : Nat) (w : World) (h : Ro w N R a n c K) (hrow : RowK N w al l) (hl : l.length ≤ 16777216) (hz : EvSized l) :
    Calls Tryz.prog 20 #[.pointer (some ⟨R, 0, none⟩), .slice al l.length cl] w fun e w' => NodeOf e ∧ Ro w' N R a n c K ∧ RFrame N w w' := by
  have hlt := h.lt
  have k1 := next_any N R a n c K (l.length + 1) ((l.length : Int) + 1) w h (by omega) (by omega) (by omega)
  have k2 := fun W (h : Ro W N R a n c K) => next_any N R a n c K 15 15 W h (by omega) (by omega) rfl
  have k3 := fun W (h : Ro W N R a n c K) => next_any N R a n c K 37 37 W h (by omega) (by omega) rfl
  have H := hide h
  have HRow := hide hrow
  have HZ := hide hz
  have K1 := hide k1
  have K2 := hide k2
  have K3 := hide k3
  clear k1 k2 k3 h hrow hz
  go_enter Tryz.func20, Tryz.ntmps20
  go_wp2_with fail
  refine (unhide K1).mono ?_
  rintro e w1 ⟨⟨old, hold, rfl⟩, hR1, hg1⟩
  have HF1 := hide ((unhide H).next hg1)
  have HR1 := hide hR1
  obtain ⟨M1, hM1⟩ := unhide HRow
  have HRow1 := hide (hM1 _ ((unhide H).next hg1))
  clear hM1
  clear hR1 hg1 K1 H HRow
  have hcase : (∃ o1, old = o1 + 1 ∧ o1 < l.length) ∨ old = 0 := by
    rcases Nat.eq_zero_or_pos old with q | q
    · exact .inr q
    · exact .inl ⟨old - 1, by omega, by omega⟩
  rcases hcase with ⟨o1, rfl, hol⟩ | rfl
  · obtain ⟨b, o, rfl, hb, x0, x1, x2, x3, x4, x5, x6⟩ := row_e (unhide HRow1) o1 hol
    have hs1 := (unhide HZ o1 hol).1
    have key := fun W => isNode_k l[o1].node W (by omega)
    have Key := hide key
    generalize l[o1].node = nd at *
    have d0 : decide ((0 : Int) < (o1 : Int) + 1) = true := decide_eq_true (by omega)
    have d1 : (o1 : Int) < (l.length : Int) := by omega
    clear key
    go_wp2_with fail
    refine (unhide Key _).mono ?_
    rintro e w2 ⟨⟨bb, rfl, hbb⟩, rfl⟩
    have HBB := hide hbb
    clear hbb
    cases bb with
    | true =>
      go_wp2_with fail
      go_ret
      exact ⟨⟨nd, rfl, (unhide HBB).1 (by simp)⟩, unhide HR1, unhide HF1⟩
    | false =>
      go_wp2_with fail
      refine (unhide K2 _ (unhide HR1)).mono ?_
      rintro e w2 ⟨⟨nn, hnn, rfl⟩, hR2, hg2⟩
      have HF2 := hide ((unhide HF1).trans ((unhide HR1).next hg2))
      have HR2 := hide hR2
      clear hR2 hg2 K2 HR1 HF1
      go_wp2_with fail
      go_loopg [6, 8] (nn + 2) (fun g vs vi w' => ∃ (j : Nat) (s : ByteArray), vi = .int .i64 j ∧ j ≤ nn + 1 ∧ g = nn + 2 - j ∧ vs = .string s ∧ s.size = j ∧ Hid (Lets s) ∧ Hid (Ro w' N R a n c K) ∧ Hid (RFrame N w w'))
      case atStart => exact ⟨0, ⟨#[]⟩, rfl, Nat.zero_le _, rfl, rfl, rfl, hide (fun i hi => absurd hi (Nat.not_lt_zero i)), HR2, HF2⟩
      case round =>
        clear HR2 HF2
        obtain ⟨j, s, rfl, hj, rfl, rfl, hsj, HL, HR, HF⟩ := hrel
        by_cases cj : j < nn + 1
        · go_wp2_with fail
          refine (unhide K3 _ (unhide HR)).mono ?_
          rintro e w3 ⟨⟨q, hq, rfl⟩, hR3, hg3⟩
          have HF3 := hide ((unhide HF).trans ((unhide HR).next hg3))
          have HR3 := hide hR3
          have HL3 := hide (lets_more (unhide HL) hq)
          have hz3 : (s ++ lettersB.extract q (q + 1)).size = j + 1 := by rw [ByteArray.size_append, (letter_one q hq).1, hsj]
          have HZ3 := hide hz3
          clear hR3 hg3 HR HF HL hz3
          have hss : s.size ≤ 15 := by omega
          have HSJ := hide hsj
          clear hsj
          go_wp2_with fail
          go_roundg (nn + 2 - (j + 1))
          case measure => omega
          case rel => exact ⟨j + 1, s ++ lettersB.extract q (q + 1), by go_num, by omega, rfl, rfl, unhide HZ3, HL3, HR3, HF3⟩
        · have ej : j = nn + 1 := by omega
          go_wp2_with fail
          go_ret
          refine ⟨⟨s, rfl, unhide HL, by omega, by omega⟩, unhide HR, unhide HF⟩
  · skip
    · skip
      have d0 : decide ((0 : Int) < 0) = false := by decide
      go_wp2_with fail
      refine (unhide K2 _ (unhide HR1)).mono ?_
      rintro e w2 ⟨⟨nn, hnn, rfl⟩, hR2, hg2⟩
      have HF2 := hide ((unhide HF1).trans ((unhide HR1).next hg2))
      have HR2 := hide hR2
      clear hR2 hg2 K2 HR1 HF1
      go_wp2_with fail
      go_loopg [6, 8] (nn + 2) (fun g vs vi w' => ∃ (j : Nat) (s : ByteArray), vi = .int .i64 j ∧ j ≤ nn + 1 ∧ g = nn + 2 - j ∧ vs = .string s ∧ s.size = j ∧ Hid (Lets s) ∧ Hid (Ro w' N R a n c K) ∧ Hid (RFrame N w w'))
      case atStart => exact ⟨0, ⟨#[]⟩, rfl, Nat.zero_le _, rfl, rfl, rfl, hide (fun i hi => absurd hi (Nat.not_lt_zero i)), HR2, HF2⟩
      case round =>
        clear HR2 HF2
        obtain ⟨j, s, rfl, hj, rfl, rfl, hsj, HL, HR, HF⟩ := hrel
        by_cases cj : j < nn + 1
        · go_wp2_with fail
          refine (unhide K3 _ (unhide HR)).mono ?_
          rintro e w3 ⟨⟨q, hq, rfl⟩, hR3, hg3⟩
          have HF3 := hide ((unhide HF).trans ((unhide HR).next hg3))
          have HR3 := hide hR3
          have HL3 := hide (lets_more (unhide HL) hq)
          have hz3 : (s ++ lettersB.extract q (q + 1)).size = j + 1 := by rw [ByteArray.size_append, (letter_one q hq).1, hsj]
          have HZ3 := hide hz3
          clear hR3 hg3 HR HF HL hz3
          have hss : s.size ≤ 15 := by omega
          have HSJ := hide hsj
          clear hsj
          go_wp2_with fail
          go_roundg (nn + 2 - (j + 1))
          case measure => omega
          case rel => exact ⟨j + 1, s ++ lettersB.extract q (q + 1), by go_num, by omega, rfl, rfl, unhide HZ3, HL3, HR3, HF3⟩
        · have ej : j = nn + 1 := by omega
          go_wp2_with fail
          go_ret
          refine ⟨⟨s, rfl, unhide HL, by omega, by omega⟩, unhide HR, unhide HF⟩

end Go.Proofs.YtdhobdmhnocbgabGreat
