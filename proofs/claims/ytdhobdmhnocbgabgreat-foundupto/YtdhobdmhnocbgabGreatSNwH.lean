/-
  Plain: a stream, cut into messages; a stream that comes in chunks.
-/
/-
  Walks over zonekeep: a node's name; records counted.
-/
/-
  Plain: the news with the greatest Inc of a node say all that the zone has of it.
-/
/-
  Walks over zonekeep: are the records of a node just what the news say?
-/
/-
  Walks over zonekeep: a node's name out of raw numbers; news of a node that is alive.
-/
/-
  Walks over zonekeep: news of a node that is alive.
-/
/-
  Walks over zonekeep: the least Inc above all that a list has of a node.
-/
/-
  Walks over zonekeep: one more among the news.
-/
/-
  Walks over zonekeep: fixed.
-/
/-
  Walks over zonekeep: Newest.
-/
import Derived.Test.YtdhobdmhnocbgabGreatSMsgs
import Derived.Test.YtdhobdmhnocbgabGreatSRefP
import Derived.Test.YtdhobdmhnocbgabGreatSOpnE
import Derived.Test.YtdhobdmhnocbgabGreatSRolH
import Derived.Test.YtdhobdmhnocbgabGreatSMwG
namespace Go.Proofs.YtdhobdmhnocbgabGreat.Zr

/-- The messages that are whole from k on, and how many bytes are left behind them. -/
def cutP (s : ByteArray) (k : Nat) : List ByteArray × Nat :=
  if _h : k + 2 ≤ s.size ∧ k + 2 + num s k 2 ≤ s.size then
    (s.extract (k + 2) (k + 2 + num s k 2) :: (cutP s (k + 2 + num s k 2)).1, (cutP s (k + 2 + num s k 2)).2)
  else ([], s.size - k)
termination_by s.size - k

/-- What is left behind the whole messages. -/
def leftP (s : ByteArray) : ByteArray := s.extract (s.size - (cutP s 0).2) s.size

end Go.Proofs.YtdhobdmhnocbgabGreat.Zr

namespace Go.Proofs.YtdhobdmhnocbgabGreat
open Go.RowKit Zr

set_option maxRecDepth 100000 in
set_option maxHeartbeats 2000000 in
theorem isNode_k (s : ByteArray) (w : World) (hs : s.size ≤ 281474976710656) :
    Calls Tryz.prog 40 #[.string s] w fun e w' => BoolIs (labelOk s) e ∧ w' = w := by
  go_enter Tryz.func40, Tryz.ntmps40
  go_wp2_with fail
  go_loop [3] (fun i => ∃ j : Nat, j ≤ s.size ∧ i = .int .i64 j ∧ Hid (∀ m, m < j → labC (bt s m))) (fun i => s.size - (intOf i).toNat)
  case atStart => exact ⟨0, Nat.zero_le _, rfl, hide fun m hm => by omega⟩
  case round =>
    obtain ⟨j, hj, rfl, HL⟩ := hrel
    by_cases cj : j < s.size
    · have hg := bt_get s j cj
      obtain ⟨c, hc⟩ : ∃ c, bt s j = c := ⟨_, rfl⟩
      rw [hc] at hg
      have HC := hide hc
      clear hc
      rcases seven c with h | h | h | h | h | h | h
      all_goals
        (first | have d1 : decide ((c : Int) < (97 : Int)) = true := decide_eq_true (by omega) | have d1 : decide ((c : Int) < (97 : Int)) = false := decide_eq_false (by omega))
        (first | have d2 : decide ((122 : Int) < (c : Int)) = true := decide_eq_true (by omega) | have d2 : decide ((122 : Int) < (c : Int)) = false := decide_eq_false (by omega))
        (first | have d3 : decide ((c : Int) < (48 : Int)) = true := decide_eq_true (by omega) | have d3 : decide ((c : Int) < (48 : Int)) = false := decide_eq_false (by omega))
        (first | have d4 : decide ((57 : Int) < (c : Int)) = true := decide_eq_true (by omega) | have d4 : decide ((57 : Int) < (c : Int)) = false := decide_eq_false (by omega))
        (first | have d5 : ((c : Int) != (45 : Int)) = true := bne_iff_ne.2 (by omega) | have d5 : ((c : Int) != (45 : Int)) = false := by rw [bne_eq_false_iff_eq]; omega)
        go_wp2_with fail
        first
          | (go_round
             case rel =>
               refine ⟨j + 1, by omega, by go_num, hide fun m hm => ?_⟩
               rcases Nat.lt_or_ge m j with k | k
               · exact unhide HL m k
               · have : m = j := by omega
                 subst this
                 rw [unhide HC]
                 unfold labC
                 omega
             case measure => simp [intOf]; omega)
          | (go_ret
             refine ⟨⟨_, rfl, ⟨fun h => by simp at h, fun h => ?_⟩⟩, rfl⟩
             have := h.1 j cj
             rw [unhide HC] at this
             unfold labC at this
             omega)
    · have e : j = s.size := by omega
      subst e
      by_cases c1 : 1 ≤ s.size
      · go_wp2_with fail
        go_ret
        refine ⟨⟨_, rfl, ?_⟩, rfl⟩
        simp only [decide_eq_true_eq]
        exact ⟨fun h => ⟨unhide HL, c1, by omega⟩, fun h => by have := h.2.2; omega⟩
      · go_wp2_with fail
        go_ret
        exact ⟨⟨_, rfl, ⟨fun h => by simp at h, fun h => absurd h.2.1 c1⟩⟩, rfl⟩

set_option maxRecDepth 100000 in
set_option maxHeartbeats 1000000 in
theorem host_k (s : ByteArray) (w : World) (h : s.size < 256) : Calls Tryz.prog 24 #[.string s] w fun e w' => e = .returned (.string (underP s)) ∧ Below w.heap.size w w' := by
  have HO := hide (one_owns w s.size h)
  have h1 : (one s.size).size = 1 := rfl
  obtain ⟨r, hr⟩ : ∃ r, underP s = r := ⟨_, rfl⟩
  have hr2 : one s.size ++ s ++ originB = r := hr
  rw [hr]
  have HR := hide hr2
  clear hr hr2
  obtain ⟨y, hy⟩ : ∃ y, one s.size = y := ⟨_, rfl⟩
  rw [hy] at HO h1 HR
  have hz : (y ++ s).size = 1 + s.size := by rw [ByteArray.size_append]; omega
  clear hy
  go_enter Tryz.func24, Tryz.ntmps24
  go_wp2_with fail
  rw [run_bytes_row _ 70 9 5 Tryz.underlying70 Tryz.underlying5 Tryz.underlying9 w.heap.size _ y (unhide HO)]
  go_wp2_with fail
  go_ret
  exact ⟨by rw [← unhide HR]; rfl, (Below.refl _ _).alloc (Nat.le_refl _) _⟩

/-- How many records have a name and a type. -/
def havP (z : List RI) (nm : ByteArray) (t : Int) : Nat := z.countP fun x => decide (x.name = nm ∧ x.ty = t)
def exaP (z : List RI) (nm : ByteArray) (t : Int) (d : ByteArray) : Nat := z.countP fun x => decide (x.name = nm ∧ x.ty = t ∧ x.data = d ∧ x.cl = 1 ∧ x.ttl = 30)
def offP (z : List RI) (nm : ByteArray) : Nat := z.countP fun x => decide (x.ty = 33 ∧ 6 < x.data.size ∧ x.data.extract 6 x.data.size = nm)

end Go.Proofs.YtdhobdmhnocbgabGreat

namespace Go.Proofs.YtdhobdmhnocbgabGreat
open Zr

theorem under_size (s : ByteArray) : (underP s).size = s.size + 11 := by
  unfold underP
  rw [ByteArray.size_append, ByteArray.size_append]
  show 1 + s.size + 10 = _
  omega
theorem under_inj {x y : ByteArray} (h : underP x = underP y) : x = y := by
  have hs : x.size = y.size := by have := congrArg ByteArray.size h; rw [under_size, under_size] at this; omega
  refine bt_ext hs fun i hi => ?_
  have h1 : bt (underP x) (1 + i) = bt x i := by
    unfold underP
    rw [ByteArray.append_assoc, bt_append, if_neg (by show ¬ (1 + i < 1); omega), bt_append, if_pos (by show 1 + i - 1 < _; omega)]
    show bt x (1 + i - 1) = _
    rw [Nat.add_sub_cancel_left]
  have h2 : bt (underP y) (1 + i) = bt y i := by
    unfold underP
    rw [ByteArray.append_assoc, bt_append, if_neg (by show ¬ (1 + i < 1); omega), bt_append, if_pos (by show 1 + i - 1 < _; omega)]
    show bt y (1 + i - 1) = _
    rw [Nat.add_sub_cancel_left]
  rw [← h1, ← h2, h]

theorem ev_split {A B : List Ev} {e : Ev} : evAt (A ++ e :: B) A.length = e := by
  unfold evAt
  simp

/-- All else of the node is older. -/
def Older (l : List Ev) (e : Ev) : Prop := ∀ x, x ∈ l → goodE x → x.node = e.node → x.inc < e.inc

theorem rather_older {x e : Ev} (h : x.inc < e.inc) : ¬ ratherE x e ∧ ratherE e x := by
  unfold ratherE
  rw [if_pos (by omega), if_pos (by omega)]
  exact ⟨by omega, h⟩

theorem at_split {A B : List Ev} {e : Ev} {k : Nat} (hk : k < (A ++ e :: B).length) (hne : k ≠ A.length) : evAt (A ++ e :: B) k ∈ A ++ B := by
  rw [ev_at hk]
  rcases Nat.lt_or_ge k A.length with q | q
  · rw [List.getElem_append_left q]
    exact List.mem_append_left _ (List.getElem_mem _)
  · rw [List.getElem_append_right q, List.getElem_cons, dif_neg (by omega)]
    exact List.mem_append_right _ (List.getElem_mem _)

theorem new_counts {A B : List Ev} {e : Ev} (hg : goodE e) (ho : Older (A ++ B) e) : countsE (A ++ e :: B) A.length := by
  unfold countsE
  rw [ev_split]
  refine ⟨hg, fun k hk hb => ?_⟩
  obtain ⟨b1, b2, b3⟩ := hb
  rw [ev_split] at b2 b3
  by_cases c : k = A.length
  · subst c
    rw [ev_split] at b3
    rcases b3 with b3 | ⟨_, b4⟩
    · exact rather_irrefl _ b3
    · omega
  · obtain ⟨r1, r2⟩ := rather_older (ho _ (at_split hk c) b1 b2)
    rcases b3 with b3 | ⟨b3, _⟩
    · exact r1 b3
    · exact b3 r2

theorem new_up {A B : List Ev} {e : Ev} (hg : goodE e) (ho : Older (A ++ B) e) (hk : e.kind = 1) : e ∈ upP (A ++ e :: B) := by
  rw [(upP_spec _).2]
  exact ⟨A.length, by simp, new_counts hg ho, by rw [ev_split]; exact hk, ev_split.symm⟩

theorem up_split {up : List Ev} (hr : Rising up) {e : Ev} (he : e ∈ up) : ∃ U V, up = U ++ e :: V ∧ (∀ u, u ∈ U → u.node ≠ e.node) ∧ (∀ u, u ∈ V → u.node ≠ e.node) := by
  obtain ⟨U, V, rfl⟩ := List.append_of_mem he
  obtain ⟨_, h2, h3⟩ := List.pairwise_append.1 hr
  obtain ⟨h4, _⟩ := List.pairwise_cons.1 h2
  exact ⟨U, V, rfl, fun u hu => ltS_ne (h3 u hu e (by simp)), fun u hu h => ltS_ne (h4 u hu) h.symm⟩

/-- Every record of the aliases. -/
theorem ali_rec {up : List Ev} {r : RI} (h : r ∈ (aliTo up up.length).1) : ∃ a, bearP up a ≠ ⟨#[]⟩ ∧ r = madeR (underP a) 5 (underP (bearP up a)) := by
  obtain ⟨⟨S, _, _, _, _, h5⟩, _⟩ := al_inv up up.length
  rw [h5] at h
  obtain ⟨a, _, ha⟩ := List.mem_filterMap.1 h
  unfold aliR at ha
  split at ha
  · cases ha
  · next hb => cases ha; exact ⟨a, hb, rfl⟩

theorem cnt_zero {p : RI → Bool} {l : List RI} (h : ∀ x, x ∈ l → p x = false) : l.countP p = 0 := by
  rw [List.countP_eq_zero]
  intro x hx
  rw [h x hx]
  simp

/-- A count that speaks of the nodes' own records and services alone. -/
structure Own (up : List Ev) (node : ByteArray) (p : RI → Bool) : Prop where
  head : ∀ x, x = madeR originB 6 x.data ∨ x = madeR originB 2 serverB → p x = false
  ali : ∀ a, a ≠ node ∨ isUp up node → bearP up a ≠ ⟨#[]⟩ → p (madeR (underP a) 5 (underP (bearP up a))) = false
  host : ∀ u, u.node ≠ node → ∀ x, x ∈ nodeR u → p x = false
  srv : ∀ u, u.node ≠ node → p (srvR u) = false

theorem count_all {L : List Ev} {p : RI → Bool} {node : ByteArray} (hp : Own (upP L) node p) (hup : isUp (upP L) node ∨ ∀ a, p (madeR (underP a) 5 (underP (bearP (upP L) a))) = false) :
    (recordsP L).countP p = ((upP L).flatMap nodeR).countP p + ((upP L).map srvR).countP p := by
  unfold recordsP
  rw [List.countP_append, List.countP_append, List.countP_append]
  have h1 : ([madeR originB 6 (soaB (serTo L L.length).toNat), madeR originB 2 serverB] : List RI).countP p = 0 := cnt_zero fun x hx => by
    simp only [List.mem_cons, List.not_mem_nil, or_false] at hx
    rcases hx with rfl | rfl
    · exact hp.head _ (.inl rfl)
    · exact hp.head _ (.inr rfl)
  have h2 : ((aliTo (upP L) (upP L).length).1).countP p = 0 := cnt_zero fun x hx => by
    obtain ⟨a, hb, rfl⟩ := ali_rec hx
    rcases hup with h | h
    · exact hp.ali a (.inr h) hb
    · exact h a
  rw [h1, h2]
  omega

theorem host_zero {U : List Ev} {p : RI → Bool} {node : ByteArray} {up : List Ev} (hp : Own up node p) (h : ∀ u, u ∈ U → u.node ≠ node) : (U.flatMap nodeR).countP p = 0 :=
  cnt_zero fun x hx => by obtain ⟨u, hu, hx⟩ := List.mem_flatMap.1 hx; exact hp.host u (h u hu) x hx
theorem srv_zero {U : List Ev} {p : RI → Bool} {node : ByteArray} {up : List Ev} (hp : Own up node p) (h : ∀ u, u ∈ U → u.node ≠ node) : (U.map srvR).countP p = 0 :=
  cnt_zero fun x hx => by obtain ⟨u, hu, rfl⟩ := List.mem_map.1 hx; exact hp.srv u (h u hu)

theorem count_one {L : List Ev} {p : RI → Bool} {e : Ev} (hp : Own (upP L) e.node p) (he : e ∈ upP L) : (recordsP L).countP p = (nodeR e).countP p + (if p (srvR e) then 1 else 0) := by
  rw [count_all hp (.inl ⟨e, he, rfl⟩)]
  obtain ⟨U, V, hUV, hU, hV⟩ := up_split (upP_spec L).1 he
  rw [hUV, List.flatMap_append, List.flatMap_cons, List.countP_append, List.countP_append, host_zero hp hU, host_zero hp hV, List.map_append, List.map_cons, List.countP_append, List.countP_cons, srv_zero hp hU, srv_zero hp hV]
  omega

theorem nodeR_name {u : Ev} {x : RI} (h : x ∈ nodeR u) : x.name = underP u.node ∧ (x.ty = 1 ∨ x.ty = 28 ∨ x.ty = 16) ∧ x.cl = 1 ∧ x.ttl = 30 := by
  unfold nodeR at h
  rcases List.mem_cons.1 h with rfl | h
  · refine ⟨rfl, ?_, rfl, rfl⟩
    show (if u.addr.size = 16 then (28 : Int) else 1) = 1 ∨ _ = 28 ∨ _
    split
    · exact .inr (.inl rfl)
    · exact .inl rfl
  · split at h
    · simp at h
    · rw [List.mem_singleton] at h
      subst h
      exact ⟨rfl, .inr (.inr rfl), rfl, rfl⟩

theorem bear_up {up : List Ev} {a : ByteArray} (h : isUp up a) : bearP up a = ⟨#[]⟩ := by
  unfold bearP
  obtain ⟨u, hu, hn⟩ := h
  obtain ⟨i, hi, rfl⟩ := mem_ev hu
  rw [if_pos ⟨i, hi, hn⟩]

/-- By name and type. -/
theorem own_hav (up : List Ev) (node : ByteArray) (t : Int) (ht : t = 1 ∨ t = 28 ∨ t = 16 ∨ t = 5) : Own up node fun x => decide (x.name = underP node ∧ x.ty = t) := by
  refine ⟨fun x hx => decide_eq_false fun h => ?_, fun a ha hb => decide_eq_false fun h => ?_, fun u hu x hx => decide_eq_false fun h => ?_, fun u _ => decide_eq_false fun h => ?_⟩
  · have : x.ty = 6 ∨ x.ty = 2 := by rcases hx with hx | hx <;> rw [hx]; exact .inl rfl; exact .inr rfl
    omega
  · have e := under_inj h.1
    rcases ha with ha | ha
    · exact ha e
    · rw [e] at hb; exact hb (bear_up ha)
  · exact hu (under_inj ((nodeR_name hx).1.symm.trans h.1))
  · have h2 : (33 : Int) = t := h.2
    omega

def kindOf (e : Ev) : Int := if e.addr.size = 16 then 28 else 1

/-- What the zone has of a node that is up. -/
structure Has (z : List RI) (e : Ev) : Prop where
  addr : havP z (underP e.node) 1 + havP z (underP e.node) 28 = 1
  text : havP z (underP e.node) 16 = if e.text = ⟨#[]⟩ then 0 else 1
  cname : havP z (underP e.node) 5 = 0
  off : offP z (underP e.node) = 1
  exA : exaP z (underP e.node) (kindOf e) e.addr = 1
  exT : e.text ≠ ⟨#[]⟩ → exaP z (underP e.node) 16 (one e.text.size ++ e.text) = 1
  exS : exaP z serviceB 33 (q4 0 ++ wd e.port.toNat ++ underP e.node) = 1

theorem nodeR_count (e : Ev) (p : RI → Bool) : (nodeR e).countP p = (if p (madeR (underP e.node) (kindOf e) e.addr) then 1 else 0) + (if e.text = ⟨#[]⟩ then 0 else if p (madeR (underP e.node) 16 (one e.text.size ++ e.text)) then 1 else 0) := by
  have e0 : nodeR e = madeR (underP e.node) (kindOf e) e.addr :: (if e.text = ⟨#[]⟩ then [] else [madeR (underP e.node) 16 (one e.text.size ++ e.text)]) := rfl
  rw [e0, List.countP_cons]
  by_cases c : e.text = ⟨#[]⟩
  · rw [if_pos c, if_pos c, List.countP_nil]
    omega
  · rw [if_neg c, if_neg c, List.countP_cons, List.countP_nil]
    omega

theorem kind_of (e : Ev) : kindOf e = 1 ∨ kindOf e = 28 := by
  unfold kindOf
  split
  · exact .inr rfl
  · exact .inl rfl

theorem hav_one {L : List Ev} {e : Ev} (he : e ∈ upP L) (t : Int) (ht : t = 1 ∨ t = 28 ∨ t = 16 ∨ t = 5) : havP (recordsP L) (underP e.node) t = (if kindOf e = t then 1 else 0) + (if e.text = ⟨#[]⟩ then 0 else if (16 : Int) = t then 1 else 0) := by
  have h := count_one (own_hav (upP L) e.node t ht) he
  unfold havP
  rw [h, nodeR_count]
  have s : (decide ((srvR e).name = underP e.node ∧ (srvR e).ty = t)) = false := decide_eq_false fun q => by have : (33 : Int) = t := q.2; omega
  rw [s]
  have k1 : decide ((madeR (underP e.node) (kindOf e) e.addr).name = underP e.node ∧ (madeR (underP e.node) (kindOf e) e.addr).ty = t) = decide (kindOf e = t) := by
    rw [Bool.eq_iff_iff]
    simp [madeR]
  have k2 : decide ((madeR (underP e.node) 16 (one e.text.size ++ e.text)).name = underP e.node ∧ (madeR (underP e.node) 16 (one e.text.size ++ e.text)).ty = t) = decide ((16 : Int) = t) := by
    rw [Bool.eq_iff_iff]
    simp [madeR]
  rw [k1, k2]
  simp only [decide_eq_true_eq, Bool.false_eq_true, if_false, Nat.add_zero]

end Go.Proofs.YtdhobdmhnocbgabGreat

namespace Go.Proofs.YtdhobdmhnocbgabGreat
open Go.RowKit Zr

end Go.Proofs.YtdhobdmhnocbgabGreat

namespace Go.Proofs.YtdhobdmhnocbgabGreat
open Go.RowKit Zr

instance (c : Nat) : Decidable (labC c) := by unfold labC; exact inferInstance

def lettersB : ByteArray := ⟨#[97, 98, 99, 100, 101, 102, 103, 104, 105, 106, 107, 108, 109, 110, 111, 112, 113, 114, 115, 116, 117, 118, 119, 120, 121, 122, 48, 49, 50, 51, 52, 53, 54, 55, 56, 57, 45]⟩

theorem letters_at : ∀ k : Fin 37, labC (bt lettersB k.val) := by decide
theorem letter_one (k : Nat) (h : k < 37) : (lettersB.extract k (k + 1)).size = 1 ∧ labC (bt (lettersB.extract k (k + 1)) 0) := by
  have hz : lettersB.size = 37 := rfl
  refine ⟨by rw [size_extract' _ _ _ (by omega) (by omega)]; omega, ?_⟩
  rw [bt_ex _ _ _ _ (by omega) (by omega), Nat.add_zero]
  exact letters_at ⟨k, h⟩

/-- Letters so far. -/
def Lets (s : ByteArray) : Prop := ∀ i, i < s.size → labC (bt s i)
theorem lets_more {s : ByteArray} (h : Lets s) {k : Nat} (hk : k < 37) : Lets (s ++ lettersB.extract k (k + 1)) := by
  obtain ⟨h1, h2⟩ := letter_one k hk
  intro i hi
  rw [ByteArray.size_append, h1] at hi
  rw [bt_append]
  by_cases c : i < s.size
  · rw [if_pos c]; exact h i c
  · rw [if_neg c, show i - s.size = 0 by omega]; exact h2

/-- A list that stays where only the rolls turn. -/
def RowK (N : Nat) (w : World) (al : Option Addr) (l : List Ev) : Prop := ∃ M, ∀ W, RFrame N w W → RowAt W M al (evC l)
theorem RowK.call {N : Nat} {w w1 : World} {al : Option Addr} {l : List Ev} (h : RowK N w al l) (hf : RFrame N w w1) : RowK N w1 al l := by
  obtain ⟨M, h⟩ := h
  exact ⟨M, fun W hW => h W (hf.trans hW)⟩
theorem rowK_low {N : Nat} {w : World} {al : Option Addr} {l : List Ev} (h : RowAt w N al (evC l)) (hN : N ≤ w.heap.size) : RowK N w al l := ⟨N, fun _ hW => h.below (hW.below hN)⟩
theorem rowK_own {N N' : Nat} {w : World} {al : Option Addr} {n c : Nat} {l : List Ev} (h : w.ownsRow N' 56 7 (.slice al n c) n (evC l)) : RowK N w al l := by
  cases al with
  | none =>
    refine ⟨0, fun W hW hx => absurd ?_ hx⟩
    rcases h.2 with ⟨_, h0⟩ | ⟨g, cap, cur, h0, _⟩
    · have := h.1
      rw [h0] at this
      exact List.eq_nil_of_length_eq_zero (by omega)
    · cases h0
  | some ad =>
    rcases h.2 with ⟨h0, _⟩ | ⟨g, cap, cur, h0, _⟩
    · cases h0
    · cases h0
      refine ⟨g + 1, fun W hW hx => ⟨g, 0, rfl, Nat.lt_succ_self _, fun j u hu => ?_⟩⟩
      have e := (hW.owns h (by decide) (by decide) (by decide)).cells (g := g) rfl j u hu
      rw [Addr.add_lit] at e
      exact e

def NodeOf (e : Ending) : Prop := ∃ s, e = .returned (.string s) ∧ labelOk s

set_option maxRecDepth 100000 in
set_option maxHeartbeats 4000000 in
theorem node_k (N R : Nat) (a : Option Addr) (n c : Nat) (K : List ByteArray) (l : List Ev) (al : Option Addr) (cl : Nat) (w : World) (h : Ro w N R a n c K) (hrow : RowK N w al l) (hl : l.length ≤ 16777216) (hz : EvSized l) :
    Calls Tryz.prog 20 #[.pointer (some ⟨R, 0, none⟩), .slice al l.length cl] w fun e w' => NodeOf e ∧ Ro w' N R a n c K ∧ RFrame N w w' := by
  have hlt := h.lt
  have k1 := next_any N R a n c K (l.length + 1) ((l.length : Int) + 1) w h (by omega) (by omega) (by omega)
  have k2 := fun W (h : Ro W N R a n c K) => next_any N R a n c K 15 15 W h (by omega) (by omega) rfl
  have k3 := fun W (h : Ro W N R a n c K) => next_any N R a n c K 37 37 W h (by omega) (by omega) rfl
  have H := hide h
  have HRow := hide hrow
  have HZ := hide hz
  have K1 := hide k1
  have K2 := hide k2
  have K3 := hide k3
  clear k1 k2 k3 h hrow hz
  go_enter Tryz.func20, Tryz.ntmps20
  go_wp2_with fail
  refine (unhide K1).mono ?_
  rintro e w1 ⟨⟨old, hold, rfl⟩, hR1, hg1⟩
  have HF1 := hide ((unhide H).next hg1)
  have HR1 := hide hR1
  obtain ⟨M1, hM1⟩ := unhide HRow
  have HRow1 := hide (hM1 _ ((unhide H).next hg1))
  clear hM1
  clear hR1 hg1 K1 H HRow
  have hcase : (∃ o1, old = o1 + 1 ∧ o1 < l.length) ∨ old = 0 := by
    rcases Nat.eq_zero_or_pos old with q | q
    · exact .inr q
    · exact .inl ⟨old - 1, by omega, by omega⟩
  rcases hcase with ⟨o1, rfl, hol⟩ | rfl
  · obtain ⟨b, o, rfl, hb, x0, x1, x2, x3, x4, x5, x6⟩ := row_e (unhide HRow1) o1 hol
    have hs1 := (unhide HZ o1 hol).1
    have key := fun W => isNode_k l[o1].node W (by omega)
    have Key := hide key
    generalize l[o1].node = nd at *
    have d0 : decide ((0 : Int) < (o1 : Int) + 1) = true := decide_eq_true (by omega)
    have d1 : (o1 : Int) < (l.length : Int) := by omega
    clear key
    go_wp2_with fail
    refine (unhide Key _).mono ?_
    rintro e w2 ⟨⟨bb, rfl, hbb⟩, rfl⟩
    have HBB := hide hbb
    clear hbb
    cases bb with
    | true =>
      go_wp2_with fail
      go_ret
      exact ⟨⟨nd, rfl, (unhide HBB).1 (by simp)⟩, unhide HR1, unhide HF1⟩
    | false =>
      go_wp2_with fail
      refine (unhide K2 _ (unhide HR1)).mono ?_
      rintro e w2 ⟨⟨nn, hnn, rfl⟩, hR2, hg2⟩
      have HF2 := hide ((unhide HF1).trans ((unhide HR1).next hg2))
      have HR2 := hide hR2
      clear hR2 hg2 K2 HR1 HF1
      go_wp2_with fail
      go_loopg [6, 8] (nn + 2) (fun g vs vi w' => ∃ (j : Nat) (s : ByteArray), vi = .int .i64 j ∧ j ≤ nn + 1 ∧ g = nn + 2 - j ∧ vs = .string s ∧ s.size = j ∧ Hid (Lets s) ∧ Hid (Ro w' N R a n c K) ∧ Hid (RFrame N w w'))
      case atStart => exact ⟨0, ⟨#[]⟩, rfl, Nat.zero_le _, rfl, rfl, rfl, hide (fun i hi => absurd hi (Nat.not_lt_zero i)), HR2, HF2⟩
      case round =>
        clear HR2 HF2
        obtain ⟨j, s, rfl, hj, rfl, rfl, hsj, HL, HR, HF⟩ := hrel
        by_cases cj : j < nn + 1
        · go_wp2_with fail
          refine (unhide K3 _ (unhide HR)).mono ?_
          rintro e w3 ⟨⟨q, hq, rfl⟩, hR3, hg3⟩
          have HF3 := hide ((unhide HF).trans ((unhide HR).next hg3))
          have HR3 := hide hR3
          have HL3 := hide (lets_more (unhide HL) hq)
          have hz3 : (s ++ lettersB.extract q (q + 1)).size = j + 1 := by rw [ByteArray.size_append, (letter_one q hq).1, hsj]
          have HZ3 := hide hz3
          clear hR3 hg3 HR HF HL hz3
          have hss : s.size ≤ 15 := by omega
          have HSJ := hide hsj
          clear hsj
          go_wp2_with fail
          go_roundg (nn + 2 - (j + 1))
          case measure => omega
          case rel => exact ⟨j + 1, s ++ lettersB.extract q (q + 1), by go_num, by omega, rfl, rfl, unhide HZ3, HL3, HR3, HF3⟩
        · have ej : j = nn + 1 := by omega
          go_wp2_with fail
          go_ret
          refine ⟨⟨s, rfl, unhide HL, by omega, by omega⟩, unhide HR, unhide HF⟩
  · skip
    · skip
      have d0 : decide ((0 : Int) < 0) = false := by decide
      go_wp2_with fail
      refine (unhide K2 _ (unhide HR1)).mono ?_
      rintro e w2 ⟨⟨nn, hnn, rfl⟩, hR2, hg2⟩
      have HF2 := hide ((unhide HF1).trans ((unhide HR1).next hg2))
      have HR2 := hide hR2
      clear hR2 hg2 K2 HR1 HF1
      go_wp2_with fail
      go_loopg [6, 8] (nn + 2) (fun g vs vi w' => ∃ (j : Nat) (s : ByteArray), vi = .int .i64 j ∧ j ≤ nn + 1 ∧ g = nn + 2 - j ∧ vs = .string s ∧ s.size = j ∧ Hid (Lets s) ∧ Hid (Ro w' N R a n c K) ∧ Hid (RFrame N w w'))
      case atStart => exact ⟨0, ⟨#[]⟩, rfl, Nat.zero_le _, rfl, rfl, rfl, hide (fun i hi => absurd hi (Nat.not_lt_zero i)), HR2, HF2⟩
      case round =>
        clear HR2 HF2
        obtain ⟨j, s, rfl, hj, rfl, rfl, hsj, HL, HR, HF⟩ := hrel
        by_cases cj : j < nn + 1
        · go_wp2_with fail
          refine (unhide K3 _ (unhide HR)).mono ?_
          rintro e w3 ⟨⟨q, hq, rfl⟩, hR3, hg3⟩
          have HF3 := hide ((unhide HF).trans ((unhide HR).next hg3))
          have HR3 := hide hR3
          have HL3 := hide (lets_more (unhide HL) hq)
          have hz3 : (s ++ lettersB.extract q (q + 1)).size = j + 1 := by rw [ByteArray.size_append, (letter_one q hq).1, hsj]
          have HZ3 := hide hz3
          clear hR3 hg3 HR HF HL hz3
          have hss : s.size ≤ 15 := by omega
          have HSJ := hide hsj
          clear hsj
          go_wp2_with fail
          go_roundg (nn + 2 - (j + 1))
          case measure => omega
          case rel => exact ⟨j + 1, s ++ lettersB.extract q (q + 1), by go_num, by omega, rfl, rfl, unhide HZ3, HL3, HR3, HF3⟩
        · have ej : j = nn + 1 := by omega
          go_wp2_with fail
          go_ret
          refine ⟨⟨s, rfl, unhide HL, by omega, by omega⟩, unhide HR, unhide HF⟩

end Go.Proofs.YtdhobdmhnocbgabGreat

namespace Go.Proofs.YtdhobdmhnocbgabGreat
open Go.RowKit Zr

/-- News of a node that is alive. -/
def AliveOf (nd : ByteArray) (ic : Int) (e : Ending) : Prop := ∃ x : Ev, e = .returned x.val ∧ x.kind = 1 ∧ x.node = nd ∧ x.inc = ic ∧ aliveOk x

theorem cells7 {w : World} {k : Nat} {a b c d e f g : Value} {t : TypeId} (h : w.heap[k]? = some (.cells #[a, b, c, d, e, f, g] t (0, 0))) :
    (w.cell? ⟨k, 0, none⟩ = some a ∧ w.cell? ⟨k, 1, none⟩ = some b ∧ w.cell? ⟨k, 2, none⟩ = some c ∧ w.cell? ⟨k, 3, none⟩ = some d ∧ w.cell? ⟨k, 4, none⟩ = some e ∧ w.cell? ⟨k, 5, none⟩ = some f ∧ w.cell? ⟨k, 6, none⟩ = some g) ∧
    w.frozen? ⟨k, 0, none⟩ = false ∧ w.frozen? ⟨k, 1, none⟩ = false ∧ w.frozen? ⟨k, 2, none⟩ = false ∧ w.frozen? ⟨k, 3, none⟩ = false ∧ w.frozen? ⟨k, 4, none⟩ = false ∧ w.frozen? ⟨k, 5, none⟩ = false ∧ w.frozen? ⟨k, 6, none⟩ = false := by
  refine ⟨⟨?_, ?_, ?_, ?_, ?_, ?_, ?_⟩, frozen_of_blk h _, frozen_of_blk h _, frozen_of_blk h _, frozen_of_blk h _, frozen_of_blk h _, frozen_of_blk h _, frozen_of_blk h _⟩ <;> (rw [cell_of_blk h]; rfl)

theorem store7 {w : World} {k : Nat} {a b c d e f g : Value} {t : TypeId} (h : w.heap[k]? = some (.cells #[a, b, c, d, e, f, g] t (0, 0))) (x0 x1 x2 x3 x4 x5 x6 : Value) :
    (((((((w.setCell ⟨k, 0, none⟩ x0).setCell ⟨k, 1, none⟩ x1).setCell ⟨k, 2, none⟩ x2).setCell ⟨k, 3, none⟩ x3).setCell ⟨k, 4, none⟩ x4).setCell ⟨k, 5, none⟩ x5).setCell ⟨k, 6, none⟩ x6).heap[k]? = some (.cells #[x0, x1, x2, x3, x4, x5, x6] t (0, 0)) := by
  rw [blk_set (blk_set (blk_set (blk_set (blk_set (blk_set (blk_set h _ _) _ _) _ _) _ _) _ _) _ _) _ _]; rfl

/-- Where news are being made: their block behind the result's, the rolls, what was there before. -/
structure EAt (w0 : World) (N R : Nat) (a : Option Addr) (n c : Nat) (K : List ByteArray) (P : Nat) (ps cs : Array Value) (w : World) : Prop where
  ro : Ro w N R a n c K
  pa : w.heap[P]? = some (.cells ps 56 (0, 0))
  xa : w.heap[P + 1]? = some (.cells cs 56 (0, 0))
  fr : RFrame N w0 w
  old : w0.heap.size ≤ P
  low : N ≤ P

theorem EAt.call {w0 w w1 : World} {N R : Nat} {a : Option Addr} {n c : Nat} {K K' : List ByteArray} {P : Nat} {ps cs : Array Value} (h : EAt w0 N R a n c K P ps cs w) (hr : Ro w1 N R a n c K') (hf : RFrame N w w1) : EAt w0 N R a n c K' P ps cs w1 :=
  ⟨hr, hf.kind _ _ _ _ h.pa (by decide) (by decide) (by decide), hf.kind _ _ _ _ h.xa (by decide) (by decide) (by decide), h.fr.trans hf, h.old, h.low⟩
theorem EAt.set {w0 w : World} {N R : Nat} {a : Option Addr} {n c : Nat} {K : List ByteArray} {P : Nat} {ps cs : Array Value} (h : EAt w0 N R a n c K P ps cs w) (o : Nat) (v : Value) : EAt w0 N R a n c K P ps (cs.setIfInBounds o v) (w.setCell ⟨P + 1, o, none⟩ v) :=
  ⟨h.ro.set h.xa (by decide) (by decide) (by have := h.low; omega) o v, (blk_set_other (by omega) _ _).trans h.pa, blk_set h.xa o v, h.fr.set (by have := h.old; omega) o v, h.old, h.low⟩
theorem EAt.setP {w0 w : World} {N R : Nat} {a : Option Addr} {n c : Nat} {K : List ByteArray} {P : Nat} {ps cs : Array Value} (h : EAt w0 N R a n c K P ps cs w) (o : Nat) (v : Value) : EAt w0 N R a n c K P (ps.setIfInBounds o v) cs (w.setCell ⟨P, o, none⟩ v) :=
  ⟨h.ro.set h.pa (by decide) (by decide) h.low o v, blk_set h.pa o v, (blk_set_other (by omega) _ _).trans h.xa, h.fr.set h.old o v, h.old, h.low⟩

theorem e_start {w : World} {N R : Nat} {a : Option Addr} {n c : Nat} {K : List ByteArray} (h : Ro w N R a n c K) (A B : Array Value) : EAt w N R a n c K w.heap.size A B ((w.alloc (.cells A 56)).alloc (.cells B 56)) := by
  have hl := h.lt
  have hA := (Below.refl w.heap.size w).alloc (Nat.le_refl _) (.cells A 56)
  have hB := hA.alloc (by simp) (.cells B 56)
  exact ⟨h.below hB, (two_new w _ _).1, (two_new w _ _).2, RFrame.of_below hB, Nat.le_refl _, by omega⟩

def Sz4 (m : Nat) : Prop := m = 4 ∨ m = 16

set_option maxRecDepth 100000 in
set_option maxHeartbeats 16000000 in
theorem alive_k (N R : Nat) (a : Option Addr) (n c : Nat) (K : List ByteArray) (l : List Ev) (al : Option Addr) (cl : Nat) (nd : ByteArray) (ic : Int) (w : World) (h : Ro w N R a n c K) (hrow : RowK N w al l) (hl : l.length ≤ 16777216) (hz : EvSized l) :
    Calls Tryz.prog 22 #[.pointer (some ⟨R, 0, none⟩), .slice al l.length cl, .string nd, .int .i64 ic] w fun e w' => AliveOf nd ic e ∧ Ro w' N R a n c K ∧ RFrame N w w' := by
  have hlt := h.lt
  have keyN := fun W (h : Ro W N R a n c K) (m : Nat) (v : Int) (h1 : 0 < m) (h2 : m ≤ 4294967296) (hv : v = m) => next_any N R a n c K m v W h h1 (by omega) hv
  have keyB := fun W (h : Ro W N R a n c K) (m : Nat) (v : Int) (h2 : m ≤ 100000) (hv : v = m) => bytes_any N R a n c K m v W h h2 hv
  have keyO := fun W (h : Ro W N R a n c K) (hrow : RowK N W al l) => node_k N R a n c K l al cl W h hrow hl hz
  have KN := hide keyN
  have KB := hide keyB
  have KO := hide keyO
  have HRow := hide hrow
  have A0 := e_start h #[.int .i64 0, .string ⟨#[]⟩, .int .i64 0, .string ⟨#[]⟩, .int .i64 0, .string ⟨#[]⟩, .string ⟨#[]⟩] #[.int .i64 1, .string nd, .int .i64 ic, .string ⟨#[]⟩, .int .i64 0, .string ⟨#[]⟩, .string ⟨#[]⟩]
  have hlow : N ≤ w.heap.size := by omega
  clear keyN keyB keyO h hrow hz hlt
  generalize hP : w.heap.size = P at *
  go_enter Tryz.func22, Tryz.ntmps22
  go_wp2_with fail
  generalize (w.alloc (.cells #[.int .i64 0, .string ⟨#[]⟩, .int .i64 0, .string ⟨#[]⟩, .int .i64 0, .string ⟨#[]⟩, .string ⟨#[]⟩] 56)).alloc (.cells #[.int .i64 1, .string nd, .int .i64 ic, .string ⟨#[]⟩, .int .i64 0, .string ⟨#[]⟩, .string ⟨#[]⟩] 56) = w0 at *
  refine (unhide KN _ A0.ro 2 2 (by omega) (by omega) rfl).mono ?_
  rintro e w1 ⟨⟨six, hsix, rfl⟩, hR1, hg1⟩
  have A1 := A0.call hR1 (A0.ro.next hg1)
  clear hR1 hg1 A0
  rcases (show six = 1 ∨ six = 0 by omega) with rfl | rfl
  have kb := unhide KB _ A1.ro 16 16 (by omega) rfl
  have hm : Sz4 16 := .inr rfl
  generalize (16 : Nat) = sz at hm kb
  have KB1 := hide kb
  clear kb
  rotate_left
  have kb := unhide KB _ A1.ro 4 4 (by omega) rfl
  have hm : Sz4 4 := .inl rfl
  generalize (4 : Nat) = sz at hm kb
  have KB1 := hide kb
  clear kb
  rotate_left
  all_goals
    have HM := hide hm
    clear hm
    go_wp2_with fail
    refine (unhide KB1).mono ?_
    rintro e w2 ⟨⟨ad, had', rfl⟩, hR2, hf2⟩
    have Had : Hid (ad.size = 4 ∨ ad.size = 16) := hide (by rw [had']; exact unhide HM)
    have B2 := A1.call hR2 hf2
    have A2 := B2.set 3 (.string ad)
    obtain ⟨⟨x0, x1, x2, x3, x4, x5, x6⟩, y0, y1, y2, y3, y4, y5, y6⟩ := cells7 B2.xa
    have l1 := blk_lt B2.xa
    clear hR2 hf2 B2 A1 had' hsix HM KB1
    go_wp2_with fail
    clear x0 x1 x2 x3 x4 x5 x6 y0 y1 y2 y3 y4 y5 y6 l1
    generalize w2.setCell ⟨P + 1, 3, none⟩ (.string ad) = w3 at *
    refine (unhide KN _ A2.ro 65536 65536 (by omega) (by omega) rfl).mono ?_
    rintro e w4 ⟨⟨pt, hpt, rfl⟩, hR2, hg2⟩
    have B2 := A2.call hR2 (A2.ro.next hg2)
    have A3 := B2.set 4 (.int .i64 (pt : Nat))
    obtain ⟨⟨x0, x1, x2, x3, x4, x5, x6⟩, y0, y1, y2, y3, y4, y5, y6⟩ := cells7 (show w4.heap[P + 1]? = some (.cells #[.int .i64 1, .string nd, .int .i64 ic, .string ad, .int .i64 0, .string ⟨#[]⟩, .string ⟨#[]⟩] 56 (0, 0)) from B2.xa)
    have l1 := blk_lt B2.xa
    clear hR2 hg2 B2 A2
    go_wp2_with fail
    clear x0 x1 x2 x3 x4 x5 x6 y0 y1 y2 y3 y4 y5 y6 l1
    generalize w4.setCell ⟨P + 1, 4, none⟩ (.int .i64 (pt : Nat)) = w5 at *
    refine (unhide KN _ A3.ro 61 61 (by omega) (by omega) rfl).mono ?_
    rintro e w6 ⟨⟨tn, htn, rfl⟩, hR2, hg2⟩
    have A4 := A3.call hR2 (A3.ro.next hg2)
    clear hR2 hg2 A3
    go_wp2_with fail
    refine (unhide KB _ A4.ro tn _ (by omega) rfl).mono ?_
    rintro e w7 ⟨⟨tx, htx', rfl⟩, hR2, hf2⟩
    have Htx : Hid (tx.size ≤ 60) := hide (by omega)
    have B2 := A4.call hR2 hf2
    have A5 := B2.set 5 (.string tx)
    obtain ⟨⟨x0, x1, x2, x3, x4, x5, x6⟩, y0, y1, y2, y3, y4, y5, y6⟩ := cells7 (show w7.heap[P + 1]? = some (.cells #[.int .i64 1, .string nd, .int .i64 ic, .string ad, .int .i64 (pt : Nat), .string ⟨#[]⟩, .string ⟨#[]⟩] 56 (0, 0)) from B2.xa)
    have l1 := blk_lt B2.xa
    clear hR2 hf2 B2 A4 htx'
    go_wp2_with fail
    clear x0 x1 x2 x3 x4 x5 x6 y0 y1 y2 y3 y4 y5 y6 l1
    generalize w7.setCell ⟨P + 1, 5, none⟩ (.string tx) = w8 at *
    refine (unhide KN _ A5.ro 2 2 (by omega) (by omega) rfl).mono ?_
    rintro e w9 ⟨⟨has, hhas, rfl⟩, hR2, hg2⟩
    have A6 := A5.call hR2 (A5.ro.next hg2)
    have xa6 : w9.heap[P + 1]? = some (.cells #[.int .i64 1, .string nd, .int .i64 ic, .string ad, .int .i64 (pt : Nat), .string tx, .string ⟨#[]⟩] 56 (0, 0)) := A6.xa
    clear hR2 hg2 A5
    rcases (show has = 1 ∨ has = 0 by omega) with rfl | rfl
    · clear hhas
      go_wp2_with fail
      refine (unhide KO _ A6.ro ((unhide HRow).call A6.fr)).mono ?_
      rintro e w10 ⟨⟨az, rfl, haz⟩, hR2, hf2⟩
      have Has : Hid (az = ⟨#[]⟩ ∨ labelOk az) := hide (.inr haz)
      have B2 := A6.call hR2 hf2
      have A7 := B2.set 6 (.string az)
      have xb := hf2.kind _ _ _ _ xa6 (by decide) (by decide) (by decide)
      obtain ⟨⟨x0, x1, x2, x3, x4, x5, x6⟩, y0, y1, y2, y3, y4, y5, y6⟩ := cells7 xb
      have l1 := blk_lt B2.xa
      have xa7 : (w10.setCell ⟨P + 1, 6, none⟩ (.string az)).heap[P + 1]? = some (.cells #[.int .i64 1, .string nd, .int .i64 ic, .string ad, .int .i64 (pt : Nat), .string tx, .string az] 56 (0, 0)) := by rw [blk_set xb]; rfl
      obtain ⟨⟨u0, u1, u2, u3, u4, u5, u6⟩, v0, v1, v2, v3, v4, v5, v6⟩ := cells7 xa7
      obtain ⟨⟨q0, q1, q2, q3, q4, q5, q6⟩, o0, o1, o2, o3, o4, o5, o6⟩ := cells7 A7.pa
      have l2 := blk_lt B2.pa
      clear hR2 hf2 B2 A6 haz xb xa6 xa7
      go_wp2_with fail
      obtain ⟨⟨g0, g1, g2, g3, g4, g5, g6⟩, _⟩ := cells7 (store7 A7.pa (.int .i64 1) (.string nd) (.int .i64 ic) (.string ad) (.int .i64 (pt : Nat)) (.string tx) (.string az))
      have A8 := ((((((A7.setP 0 (.int .i64 1)).setP 1 (.string nd)).setP 2 (.int .i64 ic)).setP 3 (.string ad)).setP 4 (.int .i64 (pt : Nat))).setP 5 (.string tx)).setP 6 (.string az)
      refine bodyPost_ret (v := .agg #[.int .i64 1, .string nd, .int .i64 ic, .string ad, .int .i64 (pt : Nat), .string tx, .string az]) (by simp [results, Tryz.results22, go_sem, g0, g1, g2, g3, g4, g5, g6]) rfl ?_
      exact ⟨⟨⟨1, nd, ic, ad, pt, tx, az⟩, rfl, rfl, rfl, rfl, unhide Has, unhide Had, by show (0 : Int) ≤ (pt : Int); omega, by show (pt : Int) ≤ 65535; omega, unhide Htx⟩, A8.ro, A8.fr⟩
    · clear hhas
      obtain ⟨⟨u0, u1, u2, u3, u4, u5, u6⟩, v0, v1, v2, v3, v4, v5, v6⟩ := cells7 xa6
      obtain ⟨⟨q0, q1, q2, q3, q4, q5, q6⟩, o0, o1, o2, o3, o4, o5, o6⟩ := cells7 A6.pa
      have l1 := blk_lt A6.xa
      have l2 := blk_lt A6.pa
      clear xa6
      go_wp2_with fail
      obtain ⟨⟨g0, g1, g2, g3, g4, g5, g6⟩, _⟩ := cells7 (store7 A6.pa (.int .i64 1) (.string nd) (.int .i64 ic) (.string ad) (.int .i64 (pt : Nat)) (.string tx) (.string ⟨#[]⟩))
      have A8 := ((((((A6.setP 0 (.int .i64 1)).setP 1 (.string nd)).setP 2 (.int .i64 ic)).setP 3 (.string ad)).setP 4 (.int .i64 (pt : Nat))).setP 5 (.string tx)).setP 6 (.string ⟨#[]⟩)
      refine bodyPost_ret (v := .agg #[.int .i64 1, .string nd, .int .i64 ic, .string ad, .int .i64 (pt : Nat), .string tx, .string ⟨#[]⟩]) (by simp [results, Tryz.results22, go_sem, g0, g1, g2, g3, g4, g5, g6]) rfl ?_
      exact ⟨⟨⟨1, nd, ic, ad, pt, tx, ⟨#[]⟩⟩, rfl, rfl, rfl, rfl, .inl rfl, unhide Had, by show (0 : Int) ≤ (pt : Int); omega, by show (pt : Int) ≤ 65535; omega, unhide Htx⟩, A8.ro, A8.fr⟩

end Go.Proofs.YtdhobdmhnocbgabGreat

namespace Go.Proofs.YtdhobdmhnocbgabGreat
open Go.RowKit Zr

/-- The list without what a node has of the greatest Inc. -/
def restL (nd : ByteArray) (l : List Ev) : List Ev := l.filter fun x => !decide (x.node = nd ∧ x.inc = 2147483647)

theorem rest_take (nd : ByteArray) (l : List Ev) (j : Nat) (h : j < l.length) : (¬ (l[j].node = nd ∧ l[j].inc = 2147483647) → restL nd (l.take (j + 1)) = restL nd (l.take j) ++ [l[j]]) ∧ (l[j].node = nd ∧ l[j].inc = 2147483647 → restL nd (l.take (j + 1)) = restL nd (l.take j)) := by
  have e : l.take (j + 1) = l.take j ++ [l[j]] := List.take_succ_eq_append_getElem h
  rw [e]
  unfold restL
  rw [List.filter_append]
  refine ⟨fun hg => ?_, fun hg => ?_⟩
  · rw [List.filter_cons_of_pos (by show (!decide _) = true; rw [decide_eq_false hg]; rfl)]; rfl
  · rw [List.filter_cons_of_neg (by show ¬ (!decide _) = true; rw [decide_eq_true hg]; simp)]; simp

/-- v is above all that the list has of the node below the greatest Inc. -/
def Above (nd : ByteArray) (l : List Ev) (v : Int) : Prop := ∀ x, x ∈ l → x.node = nd → x.inc < 2147483647 → x.inc < v

theorem above_keep {nd : ByteArray} {l : List Ev} {v : Int} (h : Above nd l v) {x : Ev} (hx : x.node = nd → x.inc < 2147483647 → x.inc < v) : Above nd (l ++ [x]) v := by
  intro y hy h1 h2
  rcases List.mem_append.1 hy with q | q
  · exact h y q h1 h2
  · rw [List.mem_singleton] at q
    subst q
    exact hx h1 h2
theorem above_more {nd : ByteArray} {l : List Ev} {v u : Int} (h : Above nd l v) (hu : v ≤ u) : Above nd l u := fun x hx h1 h2 => by
  have := h x hx h1 h2
  omega

theorem above_older {nd : ByteArray} {l : List Ev} {v : Int} (h : Above nd (restL nd l) v) {e : Ev} (he : e.node = nd) (hi : e.inc = v) : Older (restL nd l) e := by
  intro x hx hg hn
  obtain ⟨_, hm⟩ := List.mem_filter.1 hx
  have h2 : ¬ (x.node = nd ∧ x.inc = 2147483647) := fun q => by
    have hm' : (!decide (x.node = nd ∧ x.inc = 2147483647)) = true := hm
    rw [decide_eq_true q] at hm'
    cases hm'
  have hxn : x.node = nd := hn.trans he
  have h3 := hg.2.2.1
  rw [hi]
  exact h x hx hxn (by
    have : x.inc ≠ 2147483647 := fun q => h2 ⟨hxn, q⟩
    omega)

/-- What newest answers. -/
def NewOut (nd : ByteArray) (l : List Ev) (w : World) (e : Ending) (w' : World) : Prop :=
  ∃ (a : Option Addr) (c : Nat) (v : Nat), e = .returned (.tuple #[.slice a (restL nd l).length c, .int .i64 v]) ∧ v ≤ 2147483647 ∧ Above nd (restL nd l) v ∧ w'.ownsRow w.heap.size 56 7 (.slice a (restL nd l).length c) (restL nd l).length (evC (restL nd l)) ∧ Below w.heap.size w w'

set_option maxRecDepth 100000 in
set_option maxHeartbeats 4000000 in
theorem newest_k (nd : ByteArray) (l : List Ev) (a : Option Addr) (c N : Nat) (w : World) (hrow : RowAt w N a (evC l)) (hN : N ≤ w.heap.size) (hl : l.length ≤ 33554432) :
    Calls Tryz.prog 21 #[.slice a l.length c, .string nd] w fun e w' => NewOut nd l w e w' := by
  have HRow := hide hrow
  have HT := hide (rest_take nd l)
  obtain ⟨i0, hi, hz0, hz1, hz2⟩ := info_parts Tryz.info56
  have Hi := hide hi
  have Hz0 := hide hz0
  have Hz1 := hide hz1
  have Hz2 := hide hz2
  clear hi hz0 hz1 hz2 hrow
  obtain ⟨M, hM⟩ : ∃ M, w.heap.size = M := ⟨_, rfl⟩
  have HM := hide hM
  have hs0 : M ≤ w.heap.size := by omega
  rw [hM] at hN
  clear hM
  go_enter Tryz.func21, Tryz.ntmps21
  go_wp2_with fail
  go_loopg [6, 7, 8] (l.length + 1) (fun g vl vv vi w' => ∃ (j n v : Nat) (ar : Option Addr) (cr : Nat), vi = .int .i64 j ∧ j ≤ l.length ∧ g = l.length + 1 - j ∧ vl = .slice ar n cr ∧ n ≤ j ∧ vv = .int .i64 v ∧ v ≤ 2147483647 ∧ Hid (Above nd (restL nd (l.take j)) v) ∧ Hid ((restL nd (l.take j)).length = n) ∧ Hid (w'.ownsRow M 56 7 (.slice ar n cr) n (evC (restL nd (l.take j)))) ∧ Hid (Below M w w') ∧ M ≤ w'.heap.size)
  case atStart => exact ⟨0, 0, 0, none, 0, rfl, Nat.zero_le _, rfl, rfl, Nat.le_refl _, rfl, by omega, hide (fun x hx => by simp [restL] at hx), hide rfl, hide (World.ownsRow_nil _ _ _ _), hide (Below.refl _ _), hs0⟩
  case round =>
    obtain ⟨j, n, v, ar, cr, rfl, hj, rfl, rfl, hn, rfl, hv, HA, HS, HO, HB, hs⟩ := hrel
    by_cases cj : j < l.length
    · obtain ⟨b, o, rfl, hb, x0, x1, x2, x3, x4, x5, x6⟩ := row_e ((unhide HRow).below ((unhide HB).mono hN)) j cj
      obtain ⟨t1, t2⟩ := unhide HT j cj
      have T1 := hide t1
      have T2 := hide t2
      clear t1 t2
      obtain ⟨k, hk⟩ : ∃ k, l[j] = k := ⟨_, rfl⟩
      rw [hk] at T1 T2 x0 x1 x2 x3 x4 x5 x6
      clear hk
      obtain ⟨kd, n0, ic, ad, pt, tx, al⟩ := k
      simp only at x0 x1 x2 x3 x4 x5 x6
      by_cases cc : n0 = nd ∧ ic = 2147483647
      · have HT2 := hide (unhide T2 cc)
        have f1 := strs_eq cc.1
        have f2 : (ic == 2147483647) = true := by rw [beq_iff_eq]; exact cc.2
        clear cc
        go_wp2_with fail
        go_roundg (l.length + 1 - (j + 1))
        case measure => omega
        case rel => exact ⟨j + 1, n, v, ar, cr, by go_num, by omega, rfl, rfl, by omega, rfl, hv, hide (by rw [unhide HT2]; exact unhide HA), hide (by rw [unhide HT2]; exact unhide HS), hide (by rw [unhide HT2]; exact unhide HO), HB, hs⟩
      · have HT1 := hide (unhide T1 cc)
        have hcase : ∃ u : Nat, Hid (Above nd (restL nd (l.take j) ++ [⟨kd, n0, ic, ad, pt, tx, al⟩]) u) ∧ u ≤ 2147483647 ∧ (((n0.toList == nd.toList) = false ∧ u = v) ∨ ((n0.toList == nd.toList) = true ∧ (ic == 2147483647) = false ∧ decide ((v : Int) ≤ ic) = false ∧ u = v) ∨ ((n0.toList == nd.toList) = true ∧ (ic == 2147483647) = false ∧ decide ((v : Int) ≤ ic) = true ∧ decide (ic < 2147483647) = false ∧ u = v) ∨ ((n0.toList == nd.toList) = true ∧ (ic == 2147483647) = false ∧ decide ((v : Int) ≤ ic) = true ∧ decide (ic < 2147483647) = true ∧ 0 ≤ ic ∧ ic < 2147483647 ∧ Hid ((u : Int) = ic + 1))) := by
          by_cases q : n0 = nd
          · have hm : (ic == 2147483647) = false := beq_eq_false_iff_ne.2 fun h => cc ⟨q, h⟩
            by_cases q1 : (v : Int) ≤ ic
            · by_cases q2 : ic < 2147483647
              · exact ⟨(ic + 1).toNat, hide (above_keep (above_more (unhide HA) (by omega)) (fun _ _ => by show ic < _; omega)), by omega, .inr (.inr (.inr ⟨strs_eq q, hm, decide_eq_true q1, decide_eq_true q2, by omega, q2, hide (by omega)⟩))⟩
              · exact ⟨v, hide (above_keep (unhide HA) (fun _ h => absurd h q2)), hv, .inr (.inr (.inl ⟨strs_eq q, hm, decide_eq_true q1, decide_eq_false q2, rfl⟩))⟩
            · exact ⟨v, hide (above_keep (unhide HA) (fun _ _ => by show ic < _; omega)), hv, .inr (.inl ⟨strs_eq q, hm, decide_eq_false q1, rfl⟩)⟩
          · exact ⟨v, hide (above_keep (unhide HA) (fun h => absurd h q)), hv, .inl ⟨strs_ne q, rfl⟩⟩
        obtain ⟨u, HU, hu, hcase⟩ := hcase
        clear cc T1 T2
        rcases hcase with ⟨f1, rfl⟩ | ⟨f1, f2, f3, rfl⟩ | ⟨f1, f2, f3, f4, rfl⟩ | ⟨f1, f2, f3, f4, f5, f6, HE⟩
        all_goals
          go_wp2_with (at_builtin; refine wpList_append_row _ rfl _ _ 22 22 rfl M 56 i0 (.agg #[.int .i64 0, .string ⟨#[]⟩, .int .i64 0, .string ⟨#[]⟩, .int .i64 0, .string ⟨#[]⟩, .string ⟨#[]⟩]) 7 88 Tryz.underlying22 (unhide Hi) (unhide Hz0) (unhide Hz1) (unhide Hz2) rfl (.slice ar n cr) n (evC (restL nd (l.take j))) (by rfl) ((unhide HO).alloc _) (.slice (some ⟨wr.heap.size, 0, none⟩) 1 1) 1 [.int .i64 kd, .string n0, .int .i64 ic, .string ad, .int .i64 pt, .string tx, .string al] (by rfl) (Src.ofSlice _ Tryz.underlying22 ⟨wr.heap.size, 0, none⟩ 1 1 _ rfl (cell_seven_new _ _ _ _ _ _ _ _ _ _ rfl) one7) (by unfold maxLen; omega) (by omega) (by simp; omega) ?_; intro a1 e1 w2 hown2 hgrow2 hat2; have hA := (Below.refl M wr).alloc hs (.cells #[.int .i64 kd, .string n0, .int .i64 ic, .string ad, .int .i64 pt, .string tx, .string al] 56); have hB2 := hA.trans (below_append ((unhide HO).alloc _) hgrow2 (Nat.le_trans hs hA.size)); have hs2 := Nat.le_trans hs (Nat.le_trans hA.size hgrow2.size); have y1 := (hB2.cell (p := ⟨b, o + j * 7 + 1, none⟩) (by show b < _; omega)).trans x1; have y2 := (hB2.cell (p := ⟨b, o + j * 7 + 2, none⟩) (by show b < _; omega)).trans x2)
          go_roundg (l.length + 1 - (j + 1))
          case measure => omega
          case rel =>
            refine ⟨j + 1, n + 1, u, a1, e1, by go_num, by omega, rfl, rfl, by omega, by first | rfl | (rw [unhide HE]), hu, hide (by rw [unhide HT1]; exact unhide HU), hide ?_, hide ?_, hide ((unhide HB).trans hB2), hs2⟩
            · rw [unhide HT1, List.length_append, unhide HS]; rfl
            · rw [unhide HT1, evC_push]; exact hown2
    · have ej : j = l.length := by omega
      subst ej
      have hw : NewOut nd l w (.returned (.tuple #[.slice ar n cr, .int .i64 v])) wr := by
        have h1 := unhide HS
        have h2 := unhide HO
        have h3 := unhide HA
        rw [List.take_length] at h1 h2 h3
        exact ⟨ar, cr, v, by rw [h1], hv, h3, by rw [h1, unhide HM]; exact h2, by rw [unhide HM]; exact unhide HB⟩
      have HW := hide hw
      clear hw
      go_wp2_with fail
      go_ret2
      exact unhide HW

end Go.Proofs.YtdhobdmhnocbgabGreat

namespace Go.Proofs.YtdhobdmhnocbgabGreat
open Go.RowKit Zr

theorem evC_cut (l : List Ev) (k : Nat) : evC l = evC (l.take k) ++ evC (l.drop k) := by rw [← evC_append, List.take_append_drop]
theorem evC_put (A B : List Ev) (x : Ev) : evC A ++ [.int .i64 x.kind, .string x.node, .int .i64 x.inc, .string x.addr, .int .i64 x.port, .string x.text, .string x.alias] ++ evC B = evC (A ++ x :: B) := by
  rw [evC_append, List.append_assoc]
  rfl

theorem owns_down {w : World} {N M : Nat} {e : TypeId} {size : Nat} {v : Value} {n : Nat} {xs : List Value} (h : w.ownsRow N e size v n xs) (hM : M ≤ N) : w.ownsRow M e size v n xs := by
  refine ⟨h.1, ?_⟩
  rcases h.2 with hn | ⟨g, cap, cur, hv, hbg, rest⟩
  · exact .inl hn
  · exact .inr ⟨g, cap, cur, hv, Nat.le_trans hM hbg, rest⟩

/-- A part of a row, to be appended. -/
theorem srcE_take {w : World} {N : Nat} {ax : Option Addr} {nx cx : Nat} {l : List Ev} (h : w.ownsRow N 56 7 (.slice ax nx cx) nx (evC l)) (hl : l.length = nx) (k cy : Nat) (hk : k ≤ nx) (hn : ax = none → cy = cx) : Src Tryz.prog 7 22 (.slice ax k cy) k (evC (l.take k)) w := by
  rcases h.2 with ⟨h0, _⟩ | ⟨g, cap, cur, h0, _⟩
  · cases h0
    have : k = 0 := by omega
    subst this
    rw [hn rfl]
    exact Src.ofNil _ Tryz.underlying22 0
  · cases h0
    refine Src.ofSlice _ Tryz.underlying22 ⟨g, 0, none⟩ k _ _ (by rw [evC_len, List.length_take]; congr 1; omega) (fun j u hu => ?_) (fun x hx => evC_one _ x hx)
    refine h.cells (g := g) rfl j u ?_
    rw [evC_cut l k, List.getElem?_append_left (List.getElem?_eq_some_iff.1 hu).1]
    exact hu

theorem srcE_drop {w : World} {N : Nat} {g nx cx : Nat} {l : List Ev} (h : w.ownsRow N 56 7 (.slice (some ⟨g, 0, none⟩) nx cx) nx (evC l)) (hl : l.length = nx) (k : Nat) (hk : k ≤ nx) (cy : Nat) : Src Tryz.prog 7 22 (.slice (some ⟨g, k * 7, none⟩) (nx - k) cy) (nx - k) (evC (l.drop k)) w := by
  refine Src.ofSlice _ Tryz.underlying22 ⟨g, k * 7, none⟩ (nx - k) _ _ (by rw [evC_len, List.length_drop]; congr 1; omega) (fun j u hu => ?_) (fun x hx => evC_one _ x hx)
  have e := h.cells (g := g) rfl (k * 7 + j) u (by
    rw [evC_cut l k, List.getElem?_append_right (by rw [evC_len, List.length_take]; omega), evC_len, List.length_take]
    rw [show k * 7 + j - min k l.length * 7 = j by rw [Nat.min_eq_left (by omega)]; omega]
    exact hu)
  rw [Addr.add_lit] at e ⊢
  rw [show k * 7 + j = k * 7 + j from rfl]
  simpa using e

/-- No more is to be appended. -/
theorem srcE_none {w : World} (a : Addr) (cy : Nat) : Src Tryz.prog 7 22 (.slice (some a) 0 cy) 0 [] w :=
  Src.ofSlice _ Tryz.underlying22 a 0 _ _ rfl (fun j u hu => by simp at hu) (fun x hx => by simp at hx)

/-- One more at any place. -/
def AmongOut (w : World) (l : List Ev) (x : Ev) (n : Nat) (e : Ending) (w' : World) : Prop := ∃ k, k ≤ n ∧ EvsOut w (l.take k ++ x :: l.drop k) e w'

set_option maxRecDepth 100000 in
set_option maxHeartbeats 8000000 in
theorem among_k (l : List Ev) (x : Ev) (v : Int) (a : Option Addr) (n c N : Nat) (w : World) (hrow : w.ownsRow N 56 7 (.slice a n c) n (evC l)) (hl : l.length = n) (hn : n ≤ 16777216) (h1 : -9223372036854775808 ≤ v) (h2 : v < 9223372036854775808) :
    Calls Tryz.prog 25 #[.slice a n c, .int .i64 v, x.val] w fun e w' => AmongOut w l x n e w' := by
  obtain ⟨kd, n0, ic, ad, pt, tx, al⟩ := x
  unfold Ev.val
  simp only
  obtain ⟨i0, hi, hz0, hz1, hz2⟩ := info_parts Tryz.info56
  have Hi := hide hi
  have Hz0 := hide hz0
  have Hz1 := hide hz1
  have Hz2 := hide hz2
  have kp := fun W => pick_any v (n + 1) ((n : Int) + 1) W h1 h2 (by omega) (by omega) (by omega)
  have KP := hide kp
  have HE := hide (heap_alloc_new w (.cells #[.int .i64 kd, .string n0, .int .i64 ic, .string ad, .int .i64 pt, .string tx, .string al] 56))
  have hB := (Below.refl w.heap.size w).alloc (Nat.le_refl _) (.cells #[.int .i64 kd, .string n0, .int .i64 ic, .string ad, .int .i64 pt, .string tx, .string al] 56)
  have HB := hide hB
  have HRo := hide (owns_below hrow hB)
  have HL := hide hl
  clear hi hz0 hz1 hz2 kp hB hrow hl h1 h2
  go_enter Tryz.func25, Tryz.ntmps25
  go_wp2_with fail
  refine (unhide KP _).mono ?_
  rintro e w1 ⟨⟨k, hk, rfl⟩, rfl⟩
  clear KP
  go_upto_region 3 with fail
  generalize w.alloc (.cells #[.int .i64 kd, .string n0, .int .i64 ic, .string ad, .int .i64 pt, .string tx, .string al] 56) = W at *
  generalize hO : w.heap.size = O at *
  have i1 : (0 : Int) ≤ (k : Int) := by omega
  have hkn : k ≤ n := by omega
  have HO := hide hO
  clear hO
  rcases (unhide HRo).2 with ⟨h0, hn0⟩ | ⟨g, cap, cur, h0, hbg, hgb, hrest⟩
  · cases h0
    obtain rfl : k = 0 := by omega
    go_upto_region 4 with (at_builtin; refine wpList_append_row _ rfl _ _ 22 22 rfl W.heap.size 56 i0 (.agg #[.int .i64 0, .string ⟨#[]⟩, .int .i64 0, .string ⟨#[]⟩, .int .i64 0, .string ⟨#[]⟩, .string ⟨#[]⟩]) 7 88 Tryz.underlying22 (unhide Hi) (unhide Hz0) (unhide Hz1) (unhide Hz2) rfl (.slice none 0 0) 0 [] (by rfl) (World.ownsRow_nil _ _ _ _) (.slice none 0 0) 0 (evC (l.take 0)) (by rfl) (Src.ofNil _ Tryz.underlying22 0) (by unfold maxLen; omega) (by omega) (Nat.le_refl _) ?_; intro a1 c1 w2 hown2 hgrow2 hat2; simp only [Nat.zero_add, List.nil_append] at hown2 ⊢; have hb2 := below_append (World.ownsRow_nil W W.heap.size 56 7) hgrow2 (Nat.le_refl _); clear hgrow2 hat2)
    obtain ⟨⟨o0, o1, o2, o3, o4, o5, o6⟩, _⟩ := cells7 ((hb2.block O (blk_lt (unhide HE))).trans (unhide HE))
    have s2 := hb2.size
    have lO : O < w2.heap.size := by have := blk_lt (unhide HE); omega
    go_upto_region 5 with (at_builtin; refine wpList_append_row _ rfl _ _ 22 22 rfl W.heap.size 56 i0 (.agg #[.int .i64 0, .string ⟨#[]⟩, .int .i64 0, .string ⟨#[]⟩, .int .i64 0, .string ⟨#[]⟩, .string ⟨#[]⟩]) 7 88 Tryz.underlying22 (unhide Hi) (unhide Hz0) (unhide Hz1) (unhide Hz2) rfl (.slice a1 0 c1) 0 (evC (l.take 0)) (by rfl) (hown2.alloc _) (.slice (some ⟨w2.heap.size, 0, none⟩) 1 1) 1 [.int .i64 kd, .string n0, .int .i64 ic, .string ad, .int .i64 pt, .string tx, .string al] (by rfl) (Src.ofSlice _ Tryz.underlying22 ⟨w2.heap.size, 0, none⟩ 1 1 _ rfl (cell_seven_new _ _ _ _ _ _ _ _ _ _ rfl) one7) (by unfold maxLen; omega) (by omega) (by simp; omega) ?_; intro a2 c2 w3 hown3 hgrow3 hat3; have hb3 := (hb2.alloc s2 _).trans (below_append (hown2.alloc _) hgrow3 (by simp; omega)); clear hgrow3 hat3)
    clear o0 o1 o2 o3 o4 o5 o6 lO hown2 hb2 s2
    have s3 := hb3.size
    have hro3 := owns_below (unhide HRo) hb3
    have HRo3 := hide hro3
    clear hro3
    obtain ⟨ny, hny⟩ : ∃ ny, 0 + 1 + 0 = ny := ⟨_, rfl⟩
    have HNY := hide hny
    have hlen : (l.take 0 ++ (⟨kd, n0, ic, ad, pt, tx, al⟩ : Ev) :: l.drop 0).length = ny := by rw [← hny, List.length_append, List.length_cons, List.length_take, List.length_drop]; have := unhide HL; omega
    have HLen := hide hlen
    clear hny hlen
    go_upto_region 6 with (at_builtin; (refine wpList_append_row _ rfl _ _ 22 22 rfl W.heap.size 56 i0 (.agg #[.int .i64 0, .string ⟨#[]⟩, .int .i64 0, .string ⟨#[]⟩, .int .i64 0, .string ⟨#[]⟩, .string ⟨#[]⟩]) 7 88 Tryz.underlying22 (unhide Hi) (unhide Hz0) (unhide Hz1) (unhide Hz2) rfl (.slice a2 (0 + 1) c2) (0 + 1) (evC (l.take 0) ++ [.int .i64 kd, .string n0, .int .i64 ic, .string ad, .int .i64 pt, .string tx, .string al]) (by rfl) hown3 (.slice none 0 0) (0) (evC (l.drop 0)) (by rfl) (by rw [List.drop_eq_nil_of_le (by rw [unhide HL]; omega)]; exact Src.ofNil _ Tryz.underlying22 _) (by unfold maxLen; omega) (by omega) s3 ?_; intro a3 c3 w4 hown4 hgrow4 hat4; have hb4 := hb3.trans (below_append hown3 hgrow4 s3); clear hgrow4 hat4; rw [unhide HNY] at hown4 ⊢))
    rw [evC_put _ _ ⟨kd, n0, ic, ad, pt, tx, al⟩] at hown4
    have hw : EvsOut w (l.take 0 ++ (⟨kd, n0, ic, ad, pt, tx, al⟩ : Ev) :: l.drop 0) (.returned (.slice a3 ny c3)) w4 := by
      have hOW : O ≤ W.heap.size := Nat.le_of_lt (blk_lt (unhide HE))
      refine ⟨a3, c3, by rw [unhide HLen], ?_, ?_⟩
      · rw [unhide HLen, unhide HO]; exact owns_down hown4 hOW
      · rw [unhide HO]; exact (unhide HB).trans (hb4.mono hOW)
    have HW := hide hw
    clear hw hown4 hb4 hown3 hb3 s3
    go_wp2_with fail
    go_ret
    exact ⟨0, by omega, unhide HW⟩
  · cases h0
    have hnc : n ≤ c := hrest.1
    clear hbg hgb hrest
    have q3 : (k : Int) ≤ (c : Int) := by omega
    have q4 : (k : Int) ≤ (n : Int) := by omega
    have q5 : k ≤ c := by omega
    by_cases ck : c = k
    · obtain rfl : k = c := ck.symm
      obtain rfl : k = n := by omega
      go_upto_region 4 with (at_builtin; refine wpList_append_row _ rfl _ _ 22 22 rfl W.heap.size 56 i0 (.agg #[.int .i64 0, .string ⟨#[]⟩, .int .i64 0, .string ⟨#[]⟩, .int .i64 0, .string ⟨#[]⟩, .string ⟨#[]⟩]) 7 88 Tryz.underlying22 (unhide Hi) (unhide Hz0) (unhide Hz1) (unhide Hz2) rfl (.slice none 0 0) 0 [] (by rfl) (World.ownsRow_nil _ _ _ _) (.slice (some ⟨g, 0, none⟩) k k) k (evC (l.take k)) (by rfl) (srcE_take (unhide HRo) (unhide HL) k _ (by omega) (fun h => by cases h)) (by unfold maxLen; omega) (by omega) (Nat.le_refl _) ?_; intro a1 c1 w2 hown2 hgrow2 hat2; simp only [Nat.zero_add, List.nil_append] at hown2 ⊢; have hb2 := below_append (World.ownsRow_nil W W.heap.size 56 7) hgrow2 (Nat.le_refl _); clear hgrow2 hat2)
      obtain ⟨⟨o0, o1, o2, o3, o4, o5, o6⟩, _⟩ := cells7 ((hb2.block O (blk_lt (unhide HE))).trans (unhide HE))
      have s2 := hb2.size
      have lO : O < w2.heap.size := by have := blk_lt (unhide HE); omega
      go_upto_region 5 with (at_builtin; refine wpList_append_row _ rfl _ _ 22 22 rfl W.heap.size 56 i0 (.agg #[.int .i64 0, .string ⟨#[]⟩, .int .i64 0, .string ⟨#[]⟩, .int .i64 0, .string ⟨#[]⟩, .string ⟨#[]⟩]) 7 88 Tryz.underlying22 (unhide Hi) (unhide Hz0) (unhide Hz1) (unhide Hz2) rfl (.slice a1 k c1) k (evC (l.take k)) (by rfl) (hown2.alloc _) (.slice (some ⟨w2.heap.size, 0, none⟩) 1 1) 1 [.int .i64 kd, .string n0, .int .i64 ic, .string ad, .int .i64 pt, .string tx, .string al] (by rfl) (Src.ofSlice _ Tryz.underlying22 ⟨w2.heap.size, 0, none⟩ 1 1 _ rfl (cell_seven_new _ _ _ _ _ _ _ _ _ _ rfl) one7) (by unfold maxLen; omega) (by omega) (by simp; omega) ?_; intro a2 c2 w3 hown3 hgrow3 hat3; have hb3 := (hb2.alloc s2 _).trans (below_append (hown2.alloc _) hgrow3 (by simp; omega)); clear hgrow3 hat3)
      clear o0 o1 o2 o3 o4 o5 o6 lO hown2 hb2 s2
      have s3 := hb3.size
      have hro3 := owns_below (unhide HRo) hb3
      have HRo3 := hide hro3
      clear hro3
      obtain ⟨ny, hny⟩ : ∃ ny, k + 1 + 0 = ny := ⟨_, rfl⟩
      have HNY := hide hny
      have hlen : (l.take k ++ (⟨kd, n0, ic, ad, pt, tx, al⟩ : Ev) :: l.drop k).length = ny := by rw [← hny, List.length_append, List.length_cons, List.length_take, List.length_drop]; have := unhide HL; omega
      have HLen := hide hlen
      clear hny hlen
      go_upto_region 6 with (at_builtin; (refine wpList_append_row _ rfl _ _ 22 22 rfl W.heap.size 56 i0 (.agg #[.int .i64 0, .string ⟨#[]⟩, .int .i64 0, .string ⟨#[]⟩, .int .i64 0, .string ⟨#[]⟩, .string ⟨#[]⟩]) 7 88 Tryz.underlying22 (unhide Hi) (unhide Hz0) (unhide Hz1) (unhide Hz2) rfl (.slice a2 (k + 1) c2) (k + 1) (evC (l.take k) ++ [.int .i64 kd, .string n0, .int .i64 ic, .string ad, .int .i64 pt, .string tx, .string al]) (by rfl) hown3 (.slice (some ⟨g, 0, none⟩) 0 0) (0) (evC (l.drop k)) (by rfl) (by rw [List.drop_eq_nil_of_le (by rw [unhide HL]; omega)]; exact srcE_none _ _) (by unfold maxLen; omega) (by omega) s3 ?_; intro a3 c3 w4 hown4 hgrow4 hat4; have hb4 := hb3.trans (below_append hown3 hgrow4 s3); clear hgrow4 hat4; rw [unhide HNY] at hown4 ⊢))
      rw [evC_put _ _ ⟨kd, n0, ic, ad, pt, tx, al⟩] at hown4
      have hw : EvsOut w (l.take k ++ (⟨kd, n0, ic, ad, pt, tx, al⟩ : Ev) :: l.drop k) (.returned (.slice a3 ny c3)) w4 := by
        have hOW : O ≤ W.heap.size := Nat.le_of_lt (blk_lt (unhide HE))
        refine ⟨a3, c3, by rw [unhide HLen], ?_, ?_⟩
        · rw [unhide HLen, unhide HO]; exact owns_down hown4 hOW
        · rw [unhide HO]; exact (unhide HB).trans (hb4.mono hOW)
      have HW := hide hw
      clear hw hown4 hb4 hown3 hb3 s3
      go_wp2_with fail
      go_ret
      exact ⟨k, by omega, unhide HW⟩
    · have hck : k < c := by omega
      go_upto_region 4 with (at_builtin; refine wpList_append_row _ rfl _ _ 22 22 rfl W.heap.size 56 i0 (.agg #[.int .i64 0, .string ⟨#[]⟩, .int .i64 0, .string ⟨#[]⟩, .int .i64 0, .string ⟨#[]⟩, .string ⟨#[]⟩]) 7 88 Tryz.underlying22 (unhide Hi) (unhide Hz0) (unhide Hz1) (unhide Hz2) rfl (.slice none 0 0) 0 [] (by rfl) (World.ownsRow_nil _ _ _ _) (.slice (some ⟨g, 0, none⟩) k c) k (evC (l.take k)) (by rfl) (srcE_take (unhide HRo) (unhide HL) k _ (by omega) (fun h => by cases h)) (by unfold maxLen; omega) (by omega) (Nat.le_refl _) ?_; intro a1 c1 w2 hown2 hgrow2 hat2; simp only [Nat.zero_add, List.nil_append] at hown2 ⊢; have hb2 := below_append (World.ownsRow_nil W W.heap.size 56 7) hgrow2 (Nat.le_refl _); clear hgrow2 hat2)
      obtain ⟨⟨o0, o1, o2, o3, o4, o5, o6⟩, _⟩ := cells7 ((hb2.block O (blk_lt (unhide HE))).trans (unhide HE))
      have s2 := hb2.size
      have lO : O < w2.heap.size := by have := blk_lt (unhide HE); omega
      go_upto_region 5 with (at_builtin; refine wpList_append_row _ rfl _ _ 22 22 rfl W.heap.size 56 i0 (.agg #[.int .i64 0, .string ⟨#[]⟩, .int .i64 0, .string ⟨#[]⟩, .int .i64 0, .string ⟨#[]⟩, .string ⟨#[]⟩]) 7 88 Tryz.underlying22 (unhide Hi) (unhide Hz0) (unhide Hz1) (unhide Hz2) rfl (.slice a1 k c1) k (evC (l.take k)) (by rfl) (hown2.alloc _) (.slice (some ⟨w2.heap.size, 0, none⟩) 1 1) 1 [.int .i64 kd, .string n0, .int .i64 ic, .string ad, .int .i64 pt, .string tx, .string al] (by rfl) (Src.ofSlice _ Tryz.underlying22 ⟨w2.heap.size, 0, none⟩ 1 1 _ rfl (cell_seven_new _ _ _ _ _ _ _ _ _ _ rfl) one7) (by unfold maxLen; omega) (by omega) (by simp; omega) ?_; intro a2 c2 w3 hown3 hgrow3 hat3; have hb3 := (hb2.alloc s2 _).trans (below_append (hown2.alloc _) hgrow3 (by simp; omega)); clear hgrow3 hat3)
      clear o0 o1 o2 o3 o4 o5 o6 lO hown2 hb2 s2
      have s3 := hb3.size
      have hro3 := owns_below (unhide HRo) hb3
      have HRo3 := hide hro3
      clear hro3
      obtain ⟨ny, hny⟩ : ∃ ny, k + 1 + (n - k) = ny := ⟨_, rfl⟩
      have HNY := hide hny
      have hlen : (l.take k ++ (⟨kd, n0, ic, ad, pt, tx, al⟩ : Ev) :: l.drop k).length = ny := by rw [← hny, List.length_append, List.length_cons, List.length_take, List.length_drop]; have := unhide HL; omega
      have HLen := hide hlen
      clear hny hlen
      go_upto_region 6 with (at_builtin; (refine wpList_append_row _ rfl _ _ 22 22 rfl W.heap.size 56 i0 (.agg #[.int .i64 0, .string ⟨#[]⟩, .int .i64 0, .string ⟨#[]⟩, .int .i64 0, .string ⟨#[]⟩, .string ⟨#[]⟩]) 7 88 Tryz.underlying22 (unhide Hi) (unhide Hz0) (unhide Hz1) (unhide Hz2) rfl (.slice a2 (k + 1) c2) (k + 1) (evC (l.take k) ++ [.int .i64 kd, .string n0, .int .i64 ic, .string ad, .int .i64 pt, .string tx, .string al]) (by rfl) hown3 (.slice (some ⟨g, k * 7, none⟩) (n - k) (c - k)) (n - k) (evC (l.drop k)) (by rfl) (srcE_drop (unhide HRo3) (unhide HL) k (by omega) _) (by unfold maxLen; omega) (by omega) s3 ?_; intro a3 c3 w4 hown4 hgrow4 hat4; have hb4 := hb3.trans (below_append hown3 hgrow4 s3); clear hgrow4 hat4; rw [unhide HNY] at hown4 ⊢))
      rw [evC_put _ _ ⟨kd, n0, ic, ad, pt, tx, al⟩] at hown4
      have hw : EvsOut w (l.take k ++ (⟨kd, n0, ic, ad, pt, tx, al⟩ : Ev) :: l.drop k) (.returned (.slice a3 ny c3)) w4 := by
        have hOW : O ≤ W.heap.size := Nat.le_of_lt (blk_lt (unhide HE))
        refine ⟨a3, c3, by rw [unhide HLen], ?_, ?_⟩
        · rw [unhide HLen, unhide HO]; exact owns_down hown4 hOW
        · rw [unhide HO]; exact (unhide HB).trans (hb4.mono hOW)
      have HW := hide hw
      clear hw hown4 hb4 hown3 hb3 s3
      go_wp2_with fail
      go_ret
      exact ⟨k, by omega, unhide HW⟩

end Go.Proofs.YtdhobdmhnocbgabGreat

namespace Go.Proofs.YtdhobdmhnocbgabGreat
open Go.RowKit Zr

end Go.Proofs.YtdhobdmhnocbgabGreat

namespace Go.Proofs.YtdhobdmhnocbgabGreat
open Go.RowKit Zr

theorem ro_start {w : World} {N : Nat} {a : Option Addr} {n c : Nat} (h : RawAt w N a n) (hN : N ≤ w.heap.size) (hn : n ≤ 9223372036854775807) : Ro (w.alloc (.cells #[.slice a n c, .int .i64 0, .slice none 0 0] 45)) N w.heap.size a n c [] :=
  ⟨0, none, 0, heap_alloc_new _ _, hN, Nat.zero_le _, hn, World.ownsRow_nil _ _ _ _, h.below ((Below.refl N w).alloc hN _), fun s hs => by simp at hs⟩

theorem own_atN {w : World} {N : Nat} {e : TypeId} {size : Nat} {a : Option Addr} {n c : Nat} {xs : List Value} (h : w.ownsRow N e size (.slice a n c) n xs) : RowAt w w.heap.size a xs := by
  intro hx
  rcases h.2 with ⟨_, h0⟩ | ⟨g, cap, cur, h0, _, hg, _⟩
  · have := h.1
    rw [h0, Nat.zero_mul] at this
    exact absurd (List.eq_nil_of_length_eq_zero this) hx
  · cases h0
    refine ⟨g, 0, rfl, blk_lt hg, fun j u hu => ?_⟩
    have e := h.cells (g := g) rfl j u hu
    rw [Addr.add_lit] at e
    exact e

theorem rest_sized {nd : ByteArray} {l : List Ev} (h : EvSized l) : EvSized (restL nd l) := by
  intro i hi
  obtain ⟨j, hj, e⟩ := List.getElem_of_mem (List.mem_filter.1 (List.getElem_mem hi)).1
  have := h j hj
  rw [e] at this
  exact this

theorem put_sized {L : List Ev} {x : Ev} (h : EvSized L) (hg : goodE x) (hs : x.addr.size ≤ 16 ∧ x.text.size ≤ 60 ∧ x.alias.size ≤ 15) (k : Nat) : EvSized (L.take k ++ x :: L.drop k) := by
  intro i hi
  have hm := List.getElem_mem hi
  generalize (L.take k ++ x :: L.drop k)[i] = y at hm
  have hc : y = x ∨ y ∈ L := by
    rcases List.mem_append.1 hm with q | q
    · exact .inr (List.mem_of_mem_take q)
    · rcases List.mem_cons.1 q with q | q
      · exact .inl q
      · exact .inr (List.mem_of_mem_drop q)
  rcases hc with rfl | q
  · have := hg.1.2.2
    omega
  · obtain ⟨j, hj, e⟩ := List.getElem_of_mem q
    have := h j hj
    rw [e] at this
    exact this

end Go.Proofs.YtdhobdmhnocbgabGreat
