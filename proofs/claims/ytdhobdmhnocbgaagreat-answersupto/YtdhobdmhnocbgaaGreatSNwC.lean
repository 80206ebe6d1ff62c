/-
  Plain: a stream, cut into messages; a stream that comes in chunks.
-/
/-
  Walks over zonekeep: a node's name; records counted.
-/
/-
  Plain: the news with the greatest Inc of a node say all that the zone has of it.
-/
/-
  Walks over zonekeep: are the records of a node just what the news say?
-/
/-
  Walks over zonekeep: a node's name out of raw numbers; news of a node that is alive.
-/
import Derived.Test.YtdhobdmhnocbgaaGreatSMsgs
import Derived.Test.YtdhobdmhnocbgaaGreatSRefP
import Derived.Test.YtdhobdmhnocbgaaGreatSOpnE
import Derived.Test.YtdhobdmhnocbgaaGreatSRolH
namespace Go.Proofs.YtdhobdmhnocbgaaGreat.Zr

/-- The messages that are whole from k on, and how many bytes are left behind them. -/
def cutP (s : ByteArray) (k : Nat) : List ByteArray × Nat :=
  if _h : k + 2 ≤ s.size ∧ k + 2 + num s k 2 ≤ s.size then
    (s.extract (k + 2) (k + 2 + num s k 2) :: (cutP s (k + 2 + num s k 2)).1, (cutP s (k + 2 + num s k 2)).2)
  else ([], s.size - k)
termination_by s.size - k

/-- What is left behind the whole messages. -/
def leftP (s : ByteArray) : ByteArray := s.extract (s.size - (cutP s 0).2) s.size

theorem tail_append (a b : ByteArray) (k : Nat) (h : k ≤ a.size) : (a ++ b).extract k (a ++ b).size = a.extract k a.size ++ b := by
  have hs : (a ++ b).size = a.size + b.size := ByteArray.size_append
  have h1 := extract_size a k h
  refine bt_ext ?_ fun m hm => ?_
  · rw [extract_size (a ++ b) k (by omega), ByteArray.size_append, ByteArray.size_append, h1]
    omega
  · rw [extract_size _ _ (by omega)] at hm
    rw [bt_tail _ _ _ (by omega), bt_append, bt_append, h1]
    by_cases c : k + m < a.size
    · rw [if_pos c, if_pos (by omega), bt_tail _ _ _ c]
    · rw [if_neg c, if_neg (by omega)]
      congr 1
      omega

end Go.Proofs.YtdhobdmhnocbgaaGreat.Zr

namespace Go.Proofs.YtdhobdmhnocbgaaGreat
open Go.RowKit Zr

/-- How many records have a name and a type. -/
def havP (z : List RI) (nm : ByteArray) (t : Int) : Nat := z.countP fun x => decide (x.name = nm ∧ x.ty = t)
def exaP (z : List RI) (nm : ByteArray) (t : Int) (d : ByteArray) : Nat := z.countP fun x => decide (x.name = nm ∧ x.ty = t ∧ x.data = d ∧ x.cl = 1 ∧ x.ttl = 30)
def offP (z : List RI) (nm : ByteArray) : Nat := z.countP fun x => decide (x.ty = 33 ∧ 6 < x.data.size ∧ x.data.extract 6 x.data.size = nm)

end Go.Proofs.YtdhobdmhnocbgaaGreat

namespace Go.Proofs.YtdhobdmhnocbgaaGreat
open Zr

theorem under_size (s : ByteArray) : (underP s).size = s.size + 11 := by
  unfold underP
  rw [ByteArray.size_append, ByteArray.size_append]
  show 1 + s.size + 10 = _
  omega
theorem under_inj {x y : ByteArray} (h : underP x = underP y) : x = y := by
  have hs : x.size = y.size := by have := congrArg ByteArray.size h; rw [under_size, under_size] at this; omega
  refine bt_ext hs fun i hi => ?_
  have h1 : bt (underP x) (1 + i) = bt x i := by
    unfold underP
    rw [ByteArray.append_assoc, bt_append, if_neg (by show ¬ (1 + i < 1); omega), bt_append, if_pos (by show 1 + i - 1 < _; omega)]
    show bt x (1 + i - 1) = _
    rw [Nat.add_sub_cancel_left]
  have h2 : bt (underP y) (1 + i) = bt y i := by
    unfold underP
    rw [ByteArray.append_assoc, bt_append, if_neg (by show ¬ (1 + i < 1); omega), bt_append, if_pos (by show 1 + i - 1 < _; omega)]
    show bt y (1 + i - 1) = _
    rw [Nat.add_sub_cancel_left]
  rw [← h1, ← h2, h]

/-- All else of the node is older. -/
def Older (l : List Ev) (e : Ev) : Prop := ∀ x, x ∈ l → goodE x → x.node = e.node → x.inc < e.inc

theorem up_split {up : List Ev} (hr : Rising up) {e : Ev} (he : e ∈ up) : ∃ U V, up = U ++ e :: V ∧ (∀ u, u ∈ U → u.node ≠ e.node) ∧ (∀ u, u ∈ V → u.node ≠ e.node) := by
  obtain ⟨U, V, rfl⟩ := List.append_of_mem he
  obtain ⟨_, h2, h3⟩ := List.pairwise_append.1 hr
  obtain ⟨h4, _⟩ := List.pairwise_cons.1 h2
  exact ⟨U, V, rfl, fun u hu => ltS_ne (h3 u hu e (by simp)), fun u hu h => ltS_ne (h4 u hu) h.symm⟩

/-- Every record of the aliases. -/
theorem ali_rec {up : List Ev} {r : RI} (h : r ∈ (aliTo up up.length).1) : ∃ a, bearP up a ≠ ⟨#[]⟩ ∧ r = madeR (underP a) 5 (underP (bearP up a)) := by
  obtain ⟨⟨S, _, _, _, _, h5⟩, _⟩ := al_inv up up.length
  rw [h5] at h
  obtain ⟨a, _, ha⟩ := List.mem_filterMap.1 h
  unfold aliR at ha
  split at ha
  · cases ha
  · next hb => cases ha; exact ⟨a, hb, rfl⟩

theorem cnt_zero {p : RI → Bool} {l : List RI} (h : ∀ x, x ∈ l → p x = false) : l.countP p = 0 := by
  rw [List.countP_eq_zero]
  intro x hx
  rw [h x hx]
  simp

/-- A count that speaks of the nodes' own records and services alone. -/
structure Own (up : List Ev) (node : ByteArray) (p : RI → Bool) : Prop where
  head : ∀ x, x = madeR originB 6 x.data ∨ x = madeR originB 2 serverB → p x = false
  ali : ∀ a, a ≠ node ∨ isUp up node → bearP up a ≠ ⟨#[]⟩ → p (madeR (underP a) 5 (underP (bearP up a))) = false
  host : ∀ u, u.node ≠ node → ∀ x, x ∈ nodeR u → p x = false
  srv : ∀ u, u.node ≠ node → p (srvR u) = false

theorem count_all {L : List Ev} {p : RI → Bool} {node : ByteArray} (hp : Own (upP L) node p) (hup : isUp (upP L) node ∨ ∀ a, p (madeR (underP a) 5 (underP (bearP (upP L) a))) = false) :
    (recordsP L).countP p = ((upP L).flatMap nodeR).countP p + ((upP L).map srvR).countP p := by
  unfold recordsP
  rw [List.countP_append, List.countP_append, List.countP_append]
  have h1 : ([madeR originB 6 (soaB (serTo L L.length).toNat), madeR originB 2 serverB] : List RI).countP p = 0 := cnt_zero fun x hx => by
    simp only [List.mem_cons, List.not_mem_nil, or_false] at hx
    rcases hx with rfl | rfl
    · exact hp.head _ (.inl rfl)
    · exact hp.head _ (.inr rfl)
  have h2 : ((aliTo (upP L) (upP L).length).1).countP p = 0 := cnt_zero fun x hx => by
    obtain ⟨a, hb, rfl⟩ := ali_rec hx
    rcases hup with h | h
    · exact hp.ali a (.inr h) hb
    · exact h a
  rw [h1, h2]
  omega

theorem host_zero {U : List Ev} {p : RI → Bool} {node : ByteArray} {up : List Ev} (hp : Own up node p) (h : ∀ u, u ∈ U → u.node ≠ node) : (U.flatMap nodeR).countP p = 0 :=
  cnt_zero fun x hx => by obtain ⟨u, hu, hx⟩ := List.mem_flatMap.1 hx; exact hp.host u (h u hu) x hx
theorem srv_zero {U : List Ev} {p : RI → Bool} {node : ByteArray} {up : List Ev} (hp : Own up node p) (h : ∀ u, u ∈ U → u.node ≠ node) : (U.map srvR).countP p = 0 :=
  cnt_zero fun x hx => by obtain ⟨u, hu, rfl⟩ := List.mem_map.1 hx; exact hp.srv u (h u hu)

theorem count_one {L : List Ev} {p : RI → Bool} {e : Ev} (hp : Own (upP L) e.node p) (he : e ∈ upP L) : (recordsP L).countP p = (nodeR e).countP p + (if p (srvR e) then 1 else 0) := by
  rw [count_all hp (.inl ⟨e, he, rfl⟩)]
  obtain ⟨U, V, hUV, hU, hV⟩ := up_split (upP_spec L).1 he
  rw [hUV, List.flatMap_append, List.flatMap_cons, List.countP_append, List.countP_append, host_zero hp hU, host_zero hp hV, List.map_append, List.map_cons, List.countP_append, List.countP_cons, srv_zero hp hU, srv_zero hp hV]
  omega

theorem nodeR_name {u : Ev} {x : RI} (h : x ∈ nodeR u) : x.name = underP u.node ∧ (x.ty = 1 ∨ x.ty = 28 ∨ x.ty = 16) ∧ x.cl = 1 ∧ x.ttl = 30 := by
  unfold nodeR at h
  rcases List.mem_cons.1 h with rfl | h
  · refine ⟨rfl, ?_, rfl, rfl⟩
    show (if u.addr.size = 16 then (28 : Int) else 1) = 1 ∨ _ = 28 ∨ _
    split
    · exact .inr (.inl rfl)
    · exact .inl rfl
  · split at h
    · simp at h
    · rw [List.mem_singleton] at h
      subst h
      exact ⟨rfl, .inr (.inr rfl), rfl, rfl⟩

theorem bear_up {up : List Ev} {a : ByteArray} (h : isUp up a) : bearP up a = ⟨#[]⟩ := by
  unfold bearP
  obtain ⟨u, hu, hn⟩ := h
  obtain ⟨i, hi, rfl⟩ := mem_ev hu
  rw [if_pos ⟨i, hi, hn⟩]

/-- By name and type. -/
theorem own_hav (up : List Ev) (node : ByteArray) (t : Int) (ht : t = 1 ∨ t = 28 ∨ t = 16 ∨ t = 5) : Own up node fun x => decide (x.name = underP node ∧ x.ty = t) := by
  refine ⟨fun x hx => decide_eq_false fun h => ?_, fun a ha hb => decide_eq_false fun h => ?_, fun u hu x hx => decide_eq_false fun h => ?_, fun u _ => decide_eq_false fun h => ?_⟩
  · have : x.ty = 6 ∨ x.ty = 2 := by rcases hx with hx | hx <;> rw [hx]; exact .inl rfl; exact .inr rfl
    omega
  · have e := under_inj h.1
    rcases ha with ha | ha
    · exact ha e
    · rw [e] at hb; exact hb (bear_up ha)
  · exact hu (under_inj ((nodeR_name hx).1.symm.trans h.1))
  · have h2 : (33 : Int) = t := h.2
    omega

theorem srv_data (u : Ev) : (srvR u).data.size = 6 + (underP u.node).size ∧ (srvR u).data.extract 6 (srvR u).data.size = underP u.node := by
  have e : (srvR u).data = (q4 0 ++ wd u.port.toNat) ++ underP u.node := rfl
  have hz : (q4 0 ++ wd u.port.toNat).size = 6 := rfl
  rw [e]
  constructor
  · rw [ByteArray.size_append, hz]
  · rw [tail_append _ _ 6 (by rw [hz]; exact Nat.le_refl _)]
    have := extract_self (q4 0 ++ wd u.port.toNat) 6
    rw [hz, this]
    exact ByteArray.empty_append

def kindOf (e : Ev) : Int := if e.addr.size = 16 then 28 else 1

/-- What the zone has of a node that is up. -/
structure Has (z : List RI) (e : Ev) : Prop where
  addr : havP z (underP e.node) 1 + havP z (underP e.node) 28 = 1
  text : havP z (underP e.node) 16 = if e.text = ⟨#[]⟩ then 0 else 1
  cname : havP z (underP e.node) 5 = 0
  off : offP z (underP e.node) = 1
  exA : exaP z (underP e.node) (kindOf e) e.addr = 1
  exT : e.text ≠ ⟨#[]⟩ → exaP z (underP e.node) 16 (one e.text.size ++ e.text) = 1
  exS : exaP z serviceB 33 (q4 0 ++ wd e.port.toNat ++ underP e.node) = 1

theorem nodeR_count (e : Ev) (p : RI → Bool) : (nodeR e).countP p = (if p (madeR (underP e.node) (kindOf e) e.addr) then 1 else 0) + (if e.text = ⟨#[]⟩ then 0 else if p (madeR (underP e.node) 16 (one e.text.size ++ e.text)) then 1 else 0) := by
  have e0 : nodeR e = madeR (underP e.node) (kindOf e) e.addr :: (if e.text = ⟨#[]⟩ then [] else [madeR (underP e.node) 16 (one e.text.size ++ e.text)]) := rfl
  rw [e0, List.countP_cons]
  by_cases c : e.text = ⟨#[]⟩
  · rw [if_pos c, if_pos c, List.countP_nil]
    omega
  · rw [if_neg c, if_neg c, List.countP_cons, List.countP_nil]
    omega

theorem kind_of (e : Ev) : kindOf e = 1 ∨ kindOf e = 28 := by
  unfold kindOf
  split
  · exact .inr rfl
  · exact .inl rfl

theorem hav_one {L : List Ev} {e : Ev} (he : e ∈ upP L) (t : Int) (ht : t = 1 ∨ t = 28 ∨ t = 16 ∨ t = 5) : havP (recordsP L) (underP e.node) t = (if kindOf e = t then 1 else 0) + (if e.text = ⟨#[]⟩ then 0 else if (16 : Int) = t then 1 else 0) := by
  have h := count_one (own_hav (upP L) e.node t ht) he
  unfold havP
  rw [h, nodeR_count]
  have s : (decide ((srvR e).name = underP e.node ∧ (srvR e).ty = t)) = false := decide_eq_false fun q => by have : (33 : Int) = t := q.2; omega
  rw [s]
  have k1 : decide ((madeR (underP e.node) (kindOf e) e.addr).name = underP e.node ∧ (madeR (underP e.node) (kindOf e) e.addr).ty = t) = decide (kindOf e = t) := by
    rw [Bool.eq_iff_iff]
    simp [madeR]
  have k2 : decide ((madeR (underP e.node) 16 (one e.text.size ++ e.text)).name = underP e.node ∧ (madeR (underP e.node) 16 (one e.text.size ++ e.text)).ty = t) = decide ((16 : Int) = t) := by
    rw [Bool.eq_iff_iff]
    simp [madeR]
  rw [k1, k2]
  simp only [decide_eq_true_eq, Bool.false_eq_true, if_false, Nat.add_zero]

end Go.Proofs.YtdhobdmhnocbgaaGreat

namespace Go.Proofs.YtdhobdmhnocbgaaGreat
open Go.RowKit Zr

end Go.Proofs.YtdhobdmhnocbgaaGreat

namespace Go.Proofs.YtdhobdmhnocbgaaGreat
open Go.RowKit Zr

instance (c : Nat) : Decidable (labC c) := by unfold labC; exact inferInstance

def lettersB : ByteArray := ⟨#[97, 98, 99, 100, 101, 102, 103, 104, 105, 106, 107, 108, 109, 110, 111, 112, 113, 114, 115, 116, 117, 118, 119, 120, 121, 122, 48, 49, 50, 51, 52, 53, 54, 55, 56, 57, 45]⟩

/-- Letters so far. -/
def Lets (s : ByteArray) : Prop := ∀ i, i < s.size → labC (bt s i)
/-- A list that stays where only the rolls turn. -/
def RowK (N : Nat) (w : World) (al : Option Addr) (l : List Ev) : Prop := ∃ M, ∀ W, RFrame N w W → RowAt W M al (evC l)
theorem RowK.call {N : Nat} {w w1 : World} {al : Option Addr} {l : List Ev} (h : RowK N w al l) (hf : RFrame N w w1) : RowK N w1 al l := by
  obtain ⟨M, h⟩ := h
  exact ⟨M, fun W hW => h W (hf.trans hW)⟩
def NodeOf (e : Ending) : Prop := ∃ s, e = .returned (.string s) ∧ labelOk s

end Go.Proofs.YtdhobdmhnocbgaaGreat
