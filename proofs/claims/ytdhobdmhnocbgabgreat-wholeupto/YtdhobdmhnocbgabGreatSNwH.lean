/-
  Plain: a stream, cut into messages; a stream that comes in chunks.
-/
/-
  Walks over zonekeep: a node's name; records counted.
-/
/-
  Plain: the news with the greatest Inc of a node say all that the zone has of it.
-/
/-
  Walks over zonekeep: are the records of a node just what the news say?
-/
/-
  Walks over zonekeep: a node's name out of raw numbers; news of a node that is alive.
-/
/-
  Walks over zonekeep: news of a node that is alive.
-/
/-
  Walks over zonekeep: the least Inc above all that a list has of a node.
-/
/-
  Walks over zonekeep: one more among the news.
-/
/-
  Walks over zonekeep: fixed.
-/
/-
  Walks over zonekeep: Newest.
-/
import Derived.Test.YtdhobdmhnocbgabGreatSMsgs
import Derived.Test.YtdhobdmhnocbgabGreatSRefP
import Derived.Test.YtdhobdmhnocbgabGreatSOpnE
import Derived.Test.YtdhobdmhnocbgabGreatSRolH
import Derived.Test.YtdhobdmhnocbgabGreatSMwG
namespace Go.Proofs.YtdhobdmhnocbgabGreat.Zr

/-- The messages that are whole from k on, and how many bytes are left behind them. -/
def cutP (s : ByteArray) (k : Nat) : List ByteArray × Nat :=
  if _h : k + 2 ≤ s.size ∧ k + 2 + num s k 2 ≤ s.size then
    (s.extract (k + 2) (k + 2 + num s k 2) :: (cutP s (k + 2 + num s k 2)).1, (cutP s (k + 2 + num s k 2)).2)
  else ([], s.size - k)
termination_by s.size - k

/-- What is left behind the whole messages. -/
def leftP (s : ByteArray) : ByteArray := s.extract (s.size - (cutP s 0).2) s.size

theorem tail_append (a b : ByteArray) (k : Nat) (h : k ≤ a.size) : (a ++ b).extract k (a ++ b).size = a.extract k a.size ++ b := by
  have hs : (a ++ b).size = a.size + b.size := ByteArray.size_append
  have h1 := extract_size a k h
  refine bt_ext ?_ fun m hm => ?_
  · rw [extract_size (a ++ b) k (by omega), ByteArray.size_append, ByteArray.size_append, h1]
    omega
  · rw [extract_size _ _ (by omega)] at hm
    rw [bt_tail _ _ _ (by omega), bt_append, bt_append, h1]
    by_cases c : k + m < a.size
    · rw [if_pos c, if_pos (by omega), bt_tail _ _ _ c]
    · rw [if_neg c, if_neg (by omega)]
      congr 1
      omega

end Go.Proofs.YtdhobdmhnocbgabGreat.Zr

namespace Go.Proofs.YtdhobdmhnocbgabGreat
open Go.RowKit Zr

set_option maxRecDepth 100000 in
set_option maxHeartbeats 2000000 in
theorem isNode_k (s : ByteArray) (w : World) (hs : s.size ≤ 281474976710656) :
    Calls Tryz.prog 40 #[.string s] w fun e w' => BoolIs (labelOk s) e ∧ w' = w := by
  go_enter Tryz.func40, Tryz.ntmps40
  go_wp2_with fail
  go_loop [3] (fun i => ∃ j : Nat, j ≤ s.size ∧ i = .int .i64 j ∧ Hid (∀ m, m < j → labC (bt s m))) (fun i => s.size - (intOf i).toNat)
  case atStart => exact ⟨0, Nat.zero_le _, rfl, hide fun m hm => by omega⟩
  case round =>
    obtain ⟨j, hj, rfl, HL⟩ := hrel
    by_cases cj : j < s.size
    · have hg := bt_get s j cj
      obtain ⟨c, hc⟩ : ∃ c, bt s j = c := ⟨_, rfl⟩
      rw [hc] at hg
      have HC := hide hc
      clear hc
      rcases seven c with h | h | h | h | h | h | h
      all_goals
        (first | have d1 : decide ((c : Int) < (97 : Int)) = true := decide_eq_true (by omega) | have d1 : decide ((c : Int) < (97 : Int)) = false := decide_eq_false (by omega))
        (first | have d2 : decide ((122 : Int) < (c : Int)) = true := decide_eq_true (by omega) | have d2 : decide ((122 : Int) < (c : Int)) = false := decide_eq_false (by omega))
        (first | have d3 : decide ((c : Int) < (48 : Int)) = true := decide_eq_true (by omega) | have d3 : decide ((c : Int) < (48 : Int)) = false := decide_eq_false (by omega))
        (first | have d4 : decide ((57 : Int) < (c : Int)) = true := decide_eq_true (by omega) | have d4 : decide ((57 : Int) < (c : Int)) = false := decide_eq_false (by omega))
        (first | have d5 : ((c : Int) != (45 : Int)) = true := bne_iff_ne.2 (by omega) | have d5 : ((c : Int) != (45 : Int)) = false := by rw [bne_eq_false_iff_eq]; omega)
        go_wp2_with fail
        first
          | (go_round
             case rel =>
               refine ⟨j + 1, by omega, by go_num, hide fun m hm => ?_⟩
               rcases Nat.lt_or_ge m j with k | k
               · exact unhide HL m k
               · have : m = j := by omega
                 subst this
                 rw [unhide HC]
                 unfold labC
                 omega
             case measure => simp [intOf]; omega)
          | (go_ret
             refine ⟨⟨_, rfl, ⟨fun h => by simp at h, fun h => ?_⟩⟩, rfl⟩
             have := h.1 j cj
             rw [unhide HC] at this
             unfold labC at this
             omega)
    · have e : j = s.size := by omega
      subst e
      by_cases c1 : 1 ≤ s.size
      · go_wp2_with fail
        go_ret
        refine ⟨⟨_, rfl, ?_⟩, rfl⟩
        simp only [decide_eq_true_eq]
        exact ⟨fun h => ⟨unhide HL, c1, by omega⟩, fun h => by have := h.2.2; omega⟩
      · go_wp2_with fail
        go_ret
        exact ⟨⟨_, rfl, ⟨fun h => by simp at h, fun h => absurd h.2.1 c1⟩⟩, rfl⟩

set_option maxRecDepth 100000 in
set_option maxHeartbeats 1000000 in
theorem host_k (s : ByteArray) (w : World) (h : s.size < 256) : Calls Tryz.prog 24 #[.string s] w fun e w' => e = .returned (.string (underP s)) ∧ Below w.heap.size w w' := by
  have HO := hide (one_owns w s.size h)
  have h1 : (one s.size).size = 1 := rfl
  obtain ⟨r, hr⟩ : ∃ r, underP s = r := ⟨_, rfl⟩
  have hr2 : one s.size ++ s ++ originB = r := hr
  rw [hr]
  have HR := hide hr2
  clear hr hr2
  obtain ⟨y, hy⟩ : ∃ y, one s.size = y := ⟨_, rfl⟩
  rw [hy] at HO h1 HR
  have hz : (y ++ s).size = 1 + s.size := by rw [ByteArray.size_append]; omega
  clear hy
  go_enter Tryz.func24, Tryz.ntmps24
  go_wp2_with fail
  rw [run_bytes_row _ 70 9 5 Tryz.underlying70 Tryz.underlying5 Tryz.underlying9 w.heap.size _ y (unhide HO)]
  go_wp2_with fail
  go_ret
  exact ⟨by rw [← unhide HR]; rfl, (Below.refl _ _).alloc (Nat.le_refl _) _⟩

/-- How many records have a name and a type. -/
def havP (z : List RI) (nm : ByteArray) (t : Int) : Nat := z.countP fun x => decide (x.name = nm ∧ x.ty = t)
def exaP (z : List RI) (nm : ByteArray) (t : Int) (d : ByteArray) : Nat := z.countP fun x => decide (x.name = nm ∧ x.ty = t ∧ x.data = d ∧ x.cl = 1 ∧ x.ttl = 30)
def offP (z : List RI) (nm : ByteArray) : Nat := z.countP fun x => decide (x.ty = 33 ∧ 6 < x.data.size ∧ x.data.extract 6 x.data.size = nm)

theorem count_take {p : RI → Bool} (z : List RI) (j : Nat) (h : j < z.length) : (z.take (j + 1)).countP p = (z.take j).countP p + (if p z[j] then 1 else 0) := by
  rw [List.take_succ_eq_append_getElem h, List.countP_append]
  congr 1
  rw [List.countP_cons, List.countP_nil]
  simp

theorem count_le {p : RI → Bool} (z : List RI) (j : Nat) : (z.take j).countP p ≤ j := by
  have h1 := List.countP_le_length (p := p) (l := z.take j)
  rw [List.length_take] at h1
  omega

set_option maxRecDepth 100000 in
set_option maxHeartbeats 2000000 in
theorem having_k (z : List RI) (nm : ByteArray) (t : Int) (a : Option Addr) (c N : Nat) (w : World) (hrow : RowAt w N a (rcI z)) (hl : z.length ≤ 134217728) :
    Calls Tryz.prog 14 #[.slice a z.length c, .string nm, .int .i64 t] w fun e w' => e = .returned (.int .i64 (havP z nm t : Nat)) ∧ w' = w := by
  have HRow := hide hrow
  have HT := hide (fun j h => count_take (p := fun x : RI => decide (x.name = nm ∧ x.ty = t)) z j h)
  have HL := hide (fun j => count_le (p := fun x : RI => decide (x.name = nm ∧ x.ty = t)) z j)
  clear hrow
  go_enter Tryz.func14, Tryz.ntmps14
  go_wp2_with fail
  go_loop [7, 8] (fun v i => ∃ (j m : Nat), j ≤ z.length ∧ i = .int .i64 j ∧ v = .int .i64 m ∧ m ≤ j ∧ Hid (havP (z.take j) nm t = m)) (fun _ i => z.length - (intOf i).toNat)
  case atStart => exact ⟨0, 0, Nat.zero_le _, rfl, rfl, Nat.le_refl _, hide rfl⟩
  case round =>
    obtain ⟨j, m, hj, rfl, rfl, hm, HS⟩ := hrel
    by_cases cj : j < z.length
    · obtain ⟨b, o, rfl, _, x0, x1, x2, x3, x4⟩ := row_r (unhide HRow) j cj
      have ht : havP (z.take (j + 1)) nm t = m + (if decide (z[j].name = nm ∧ z[j].ty = t) = true then 1 else 0) := by
        have := unhide HT j cj
        rw [← unhide HS]
        exact this
      generalize z[j] = x at *
      obtain ⟨n0, t0, c0, l0, d0⟩ := x
      simp only at x0 x1 x2 x3 x4 ht
      by_cases cc : n0 = nm ∧ t0 = t
      · rw [decide_eq_true cc, if_pos rfl] at ht
        have HT2 := hide ht
        have f1 := strs_eq cc.1
        have f2 : (t0 == t) = true := by rw [beq_iff_eq]; exact cc.2
        clear ht cc
        go_wp2_with fail
        go_round
        case rel => exact ⟨j + 1, m + 1, by omega, by go_num, by go_num, by omega, HT2⟩
        case measure => simp [intOf]; omega
      · rw [decide_eq_false cc, if_neg (by simp)] at ht
        have HT2 := hide ht
        have hcase : (n0.toList == nm.toList) = false ∨ ((n0.toList == nm.toList) = true ∧ (t0 == t) = false) := by
          by_cases q : n0 = nm
          · exact .inr ⟨strs_eq q, beq_eq_false_iff_ne.2 fun h => cc ⟨q, h⟩⟩
          · exact .inl (strs_ne q)
        clear ht cc
        rcases hcase with f1 | ⟨f1, f2⟩
        all_goals
          go_wp2_with fail
          go_round
          case rel => exact ⟨j + 1, m, by omega, by go_num, rfl, by omega, HT2⟩
          case measure => simp [intOf]; omega
    · have ej : j = z.length := by omega
      subst ej
      have hs := unhide HS
      rw [List.take_length] at hs
      have HS2 := hide hs
      clear hs
      go_wp2_with fail
      go_ret
      exact ⟨by rw [unhide HS2]; rfl, rfl⟩

end Go.Proofs.YtdhobdmhnocbgabGreat

namespace Go.Proofs.YtdhobdmhnocbgabGreat
open Zr

theorem under_size (s : ByteArray) : (underP s).size = s.size + 11 := by
  unfold underP
  rw [ByteArray.size_append, ByteArray.size_append]
  show 1 + s.size + 10 = _
  omega
theorem under_inj {x y : ByteArray} (h : underP x = underP y) : x = y := by
  have hs : x.size = y.size := by have := congrArg ByteArray.size h; rw [under_size, under_size] at this; omega
  refine bt_ext hs fun i hi => ?_
  have h1 : bt (underP x) (1 + i) = bt x i := by
    unfold underP
    rw [ByteArray.append_assoc, bt_append, if_neg (by show ¬ (1 + i < 1); omega), bt_append, if_pos (by show 1 + i - 1 < _; omega)]
    show bt x (1 + i - 1) = _
    rw [Nat.add_sub_cancel_left]
  have h2 : bt (underP y) (1 + i) = bt y i := by
    unfold underP
    rw [ByteArray.append_assoc, bt_append, if_neg (by show ¬ (1 + i < 1); omega), bt_append, if_pos (by show 1 + i - 1 < _; omega)]
    show bt y (1 + i - 1) = _
    rw [Nat.add_sub_cancel_left]
  rw [← h1, ← h2, h]

/-- All else of the node is older. -/
def Older (l : List Ev) (e : Ev) : Prop := ∀ x, x ∈ l → goodE x → x.node = e.node → x.inc < e.inc

theorem up_split {up : List Ev} (hr : Rising up) {e : Ev} (he : e ∈ up) : ∃ U V, up = U ++ e :: V ∧ (∀ u, u ∈ U → u.node ≠ e.node) ∧ (∀ u, u ∈ V → u.node ≠ e.node) := by
  obtain ⟨U, V, rfl⟩ := List.append_of_mem he
  obtain ⟨_, h2, h3⟩ := List.pairwise_append.1 hr
  obtain ⟨h4, _⟩ := List.pairwise_cons.1 h2
  exact ⟨U, V, rfl, fun u hu => ltS_ne (h3 u hu e (by simp)), fun u hu h => ltS_ne (h4 u hu) h.symm⟩

/-- Every record of the aliases. -/
theorem ali_rec {up : List Ev} {r : RI} (h : r ∈ (aliTo up up.length).1) : ∃ a, bearP up a ≠ ⟨#[]⟩ ∧ r = madeR (underP a) 5 (underP (bearP up a)) := by
  obtain ⟨⟨S, _, _, _, _, h5⟩, _⟩ := al_inv up up.length
  rw [h5] at h
  obtain ⟨a, _, ha⟩ := List.mem_filterMap.1 h
  unfold aliR at ha
  split at ha
  · cases ha
  · next hb => cases ha; exact ⟨a, hb, rfl⟩

theorem cnt_zero {p : RI → Bool} {l : List RI} (h : ∀ x, x ∈ l → p x = false) : l.countP p = 0 := by
  rw [List.countP_eq_zero]
  intro x hx
  rw [h x hx]
  simp

/-- A count that speaks of the nodes' own records and services alone. -/
structure Own (up : List Ev) (node : ByteArray) (p : RI → Bool) : Prop where
  head : ∀ x, x = madeR originB 6 x.data ∨ x = madeR originB 2 serverB → p x = false
  ali : ∀ a, a ≠ node ∨ isUp up node → bearP up a ≠ ⟨#[]⟩ → p (madeR (underP a) 5 (underP (bearP up a))) = false
  host : ∀ u, u.node ≠ node → ∀ x, x ∈ nodeR u → p x = false
  srv : ∀ u, u.node ≠ node → p (srvR u) = false

theorem count_all {L : List Ev} {p : RI → Bool} {node : ByteArray} (hp : Own (upP L) node p) (hup : isUp (upP L) node ∨ ∀ a, p (madeR (underP a) 5 (underP (bearP (upP L) a))) = false) :
    (recordsP L).countP p = ((upP L).flatMap nodeR).countP p + ((upP L).map srvR).countP p := by
  unfold recordsP
  rw [List.countP_append, List.countP_append, List.countP_append]
  have h1 : ([madeR originB 6 (soaB (serTo L L.length).toNat), madeR originB 2 serverB] : List RI).countP p = 0 := cnt_zero fun x hx => by
    simp only [List.mem_cons, List.not_mem_nil, or_false] at hx
    rcases hx with rfl | rfl
    · exact hp.head _ (.inl rfl)
    · exact hp.head _ (.inr rfl)
  have h2 : ((aliTo (upP L) (upP L).length).1).countP p = 0 := cnt_zero fun x hx => by
    obtain ⟨a, hb, rfl⟩ := ali_rec hx
    rcases hup with h | h
    · exact hp.ali a (.inr h) hb
    · exact h a
  rw [h1, h2]
  omega

theorem host_zero {U : List Ev} {p : RI → Bool} {node : ByteArray} {up : List Ev} (hp : Own up node p) (h : ∀ u, u ∈ U → u.node ≠ node) : (U.flatMap nodeR).countP p = 0 :=
  cnt_zero fun x hx => by obtain ⟨u, hu, hx⟩ := List.mem_flatMap.1 hx; exact hp.host u (h u hu) x hx
theorem srv_zero {U : List Ev} {p : RI → Bool} {node : ByteArray} {up : List Ev} (hp : Own up node p) (h : ∀ u, u ∈ U → u.node ≠ node) : (U.map srvR).countP p = 0 :=
  cnt_zero fun x hx => by obtain ⟨u, hu, rfl⟩ := List.mem_map.1 hx; exact hp.srv u (h u hu)

theorem count_one {L : List Ev} {p : RI → Bool} {e : Ev} (hp : Own (upP L) e.node p) (he : e ∈ upP L) : (recordsP L).countP p = (nodeR e).countP p + (if p (srvR e) then 1 else 0) := by
  rw [count_all hp (.inl ⟨e, he, rfl⟩)]
  obtain ⟨U, V, hUV, hU, hV⟩ := up_split (upP_spec L).1 he
  rw [hUV, List.flatMap_append, List.flatMap_cons, List.countP_append, List.countP_append, host_zero hp hU, host_zero hp hV, List.map_append, List.map_cons, List.countP_append, List.countP_cons, srv_zero hp hU, srv_zero hp hV]
  omega

theorem nodeR_name {u : Ev} {x : RI} (h : x ∈ nodeR u) : x.name = underP u.node ∧ (x.ty = 1 ∨ x.ty = 28 ∨ x.ty = 16) ∧ x.cl = 1 ∧ x.ttl = 30 := by
  unfold nodeR at h
  rcases List.mem_cons.1 h with rfl | h
  · refine ⟨rfl, ?_, rfl, rfl⟩
    show (if u.addr.size = 16 then (28 : Int) else 1) = 1 ∨ _ = 28 ∨ _
    split
    · exact .inr (.inl rfl)
    · exact .inl rfl
  · split at h
    · simp at h
    · rw [List.mem_singleton] at h
      subst h
      exact ⟨rfl, .inr (.inr rfl), rfl, rfl⟩

theorem bear_up {up : List Ev} {a : ByteArray} (h : isUp up a) : bearP up a = ⟨#[]⟩ := by
  unfold bearP
  obtain ⟨u, hu, hn⟩ := h
  obtain ⟨i, hi, rfl⟩ := mem_ev hu
  rw [if_pos ⟨i, hi, hn⟩]

/-- By name and type. -/
theorem own_hav (up : List Ev) (node : ByteArray) (t : Int) (ht : t = 1 ∨ t = 28 ∨ t = 16 ∨ t = 5) : Own up node fun x => decide (x.name = underP node ∧ x.ty = t) := by
  refine ⟨fun x hx => decide_eq_false fun h => ?_, fun a ha hb => decide_eq_false fun h => ?_, fun u hu x hx => decide_eq_false fun h => ?_, fun u _ => decide_eq_false fun h => ?_⟩
  · have : x.ty = 6 ∨ x.ty = 2 := by rcases hx with hx | hx <;> rw [hx]; exact .inl rfl; exact .inr rfl
    omega
  · have e := under_inj h.1
    rcases ha with ha | ha
    · exact ha e
    · rw [e] at hb; exact hb (bear_up ha)
  · exact hu (under_inj ((nodeR_name hx).1.symm.trans h.1))
  · have h2 : (33 : Int) = t := h.2
    omega

theorem srv_data (u : Ev) : (srvR u).data.size = 6 + (underP u.node).size ∧ (srvR u).data.extract 6 (srvR u).data.size = underP u.node := by
  have e : (srvR u).data = (q4 0 ++ wd u.port.toNat) ++ underP u.node := rfl
  have hz : (q4 0 ++ wd u.port.toNat).size = 6 := rfl
  rw [e]
  constructor
  · rw [ByteArray.size_append, hz]
  · rw [tail_append _ _ 6 (by rw [hz]; exact Nat.le_refl _)]
    have := extract_self (q4 0 ++ wd u.port.toNat) 6
    rw [hz, this]
    exact ByteArray.empty_append

def kindOf (e : Ev) : Int := if e.addr.size = 16 then 28 else 1

/-- What the zone has of a node that is up. -/
structure Has (z : List RI) (e : Ev) : Prop where
  addr : havP z (underP e.node) 1 + havP z (underP e.node) 28 = 1
  text : havP z (underP e.node) 16 = if e.text = ⟨#[]⟩ then 0 else 1
  cname : havP z (underP e.node) 5 = 0
  off : offP z (underP e.node) = 1
  exA : exaP z (underP e.node) (kindOf e) e.addr = 1
  exT : e.text ≠ ⟨#[]⟩ → exaP z (underP e.node) 16 (one e.text.size ++ e.text) = 1
  exS : exaP z serviceB 33 (q4 0 ++ wd e.port.toNat ++ underP e.node) = 1

theorem nodeR_count (e : Ev) (p : RI → Bool) : (nodeR e).countP p = (if p (madeR (underP e.node) (kindOf e) e.addr) then 1 else 0) + (if e.text = ⟨#[]⟩ then 0 else if p (madeR (underP e.node) 16 (one e.text.size ++ e.text)) then 1 else 0) := by
  have e0 : nodeR e = madeR (underP e.node) (kindOf e) e.addr :: (if e.text = ⟨#[]⟩ then [] else [madeR (underP e.node) 16 (one e.text.size ++ e.text)]) := rfl
  rw [e0, List.countP_cons]
  by_cases c : e.text = ⟨#[]⟩
  · rw [if_pos c, if_pos c, List.countP_nil]
    omega
  · rw [if_neg c, if_neg c, List.countP_cons, List.countP_nil]
    omega

theorem kind_of (e : Ev) : kindOf e = 1 ∨ kindOf e = 28 := by
  unfold kindOf
  split
  · exact .inr rfl
  · exact .inl rfl

theorem hav_one {L : List Ev} {e : Ev} (he : e ∈ upP L) (t : Int) (ht : t = 1 ∨ t = 28 ∨ t = 16 ∨ t = 5) : havP (recordsP L) (underP e.node) t = (if kindOf e = t then 1 else 0) + (if e.text = ⟨#[]⟩ then 0 else if (16 : Int) = t then 1 else 0) := by
  have h := count_one (own_hav (upP L) e.node t ht) he
  unfold havP
  rw [h, nodeR_count]
  have s : (decide ((srvR e).name = underP e.node ∧ (srvR e).ty = t)) = false := decide_eq_false fun q => by have : (33 : Int) = t := q.2; omega
  rw [s]
  have k1 : decide ((madeR (underP e.node) (kindOf e) e.addr).name = underP e.node ∧ (madeR (underP e.node) (kindOf e) e.addr).ty = t) = decide (kindOf e = t) := by
    rw [Bool.eq_iff_iff]
    simp [madeR]
  have k2 : decide ((madeR (underP e.node) 16 (one e.text.size ++ e.text)).name = underP e.node ∧ (madeR (underP e.node) 16 (one e.text.size ++ e.text)).ty = t) = decide ((16 : Int) = t) := by
    rw [Bool.eq_iff_iff]
    simp [madeR]
  rw [k1, k2]
  simp only [decide_eq_true_eq, Bool.false_eq_true, if_false, Nat.add_zero]

end Go.Proofs.YtdhobdmhnocbgabGreat

namespace Go.Proofs.YtdhobdmhnocbgabGreat
open Go.RowKit Zr

end Go.Proofs.YtdhobdmhnocbgabGreat

namespace Go.Proofs.YtdhobdmhnocbgabGreat
open Go.RowKit Zr

instance (c : Nat) : Decidable (labC c) := by unfold labC; exact inferInstance

def lettersB : ByteArray := ⟨#[97, 98, 99, 100, 101, 102, 103, 104, 105, 106, 107, 108, 109, 110, 111, 112, 113, 114, 115, 116, 117, 118, 119, 120, 121, 122, 48, 49, 50, 51, 52, 53, 54, 55, 56, 57, 45]⟩

theorem letters_at : ∀ k : Fin 37, labC (bt lettersB k.val) := by decide
theorem letter_one (k : Nat) (h : k < 37) : (lettersB.extract k (k + 1)).size = 1 ∧ labC (bt (lettersB.extract k (k + 1)) 0) := by
  have hz : lettersB.size = 37 := rfl
  refine ⟨by rw [size_extract' _ _ _ (by omega) (by omega)]; omega, ?_⟩
  rw [bt_ex _ _ _ _ (by omega) (by omega), Nat.add_zero]
  exact letters_at ⟨k, h⟩

/-- Letters so far. -/
def Lets (s : ByteArray) : Prop := ∀ i, i < s.size → labC (bt s i)
theorem lets_more {s : ByteArray} (h : Lets s) {k : Nat} (hk : k < 37) : Lets (s ++ lettersB.extract k (k + 1)) := by
  obtain ⟨h1, h2⟩ := letter_one k hk
  intro i hi
  rw [ByteArray.size_append, h1] at hi
  rw [bt_append]
  by_cases c : i < s.size
  · rw [if_pos c]; exact h i c
  · rw [if_neg c, show i - s.size = 0 by omega]; exact h2

/-- A list that stays where only the rolls turn. -/
def RowK (N : Nat) (w : World) (al : Option Addr) (l : List Ev) : Prop := ∃ M, ∀ W, RFrame N w W → RowAt W M al (evC l)
theorem RowK.call {N : Nat} {w w1 : World} {al : Option Addr} {l : List Ev} (h : RowK N w al l) (hf : RFrame N w w1) : RowK N w1 al l := by
  obtain ⟨M, h⟩ := h
  exact ⟨M, fun W hW => h W (hf.trans hW)⟩
def NodeOf (e : Ending) : Prop := ∃ s, e = .returned (.string s) ∧ labelOk s

set_option maxRecDepth 100000 in
set_option maxHeartbeats 4000000 in
theorem node_k (N R : Nat) (a : Option Addr) (n c : Nat) (K : List ByteArray) (l : List Ev) (al : Option Addr) (cl : Nat) (w : World) (h : Ro w N R a n c K) (hrow : RowK N w al l) (hl : l.length ≤ 16777216) (hz : EvSized l) :
    Calls Tryz.prog 20 #[.pointer (some ⟨R, 0, none⟩), .slice al l.length cl] w fun e w' => NodeOf e ∧ Ro w' N R a n c K ∧ RFrame N w w' := by
  have hlt := h.lt
  have k1 := next_any N R a n c K (l.length + 1) ((l.length : Int) + 1) w h (by omega) (by omega) (by omega)
  have k2 := fun W (h : Ro W N R a n c K) => next_any N R a n c K 15 15 W h (by omega) (by omega) rfl
  have k3 := fun W (h : Ro W N R a n c K) => next_any N R a n c K 37 37 W h (by omega) (by omega) rfl
  have H := hide h
  have HRow := hide hrow
  have HZ := hide hz
  have K1 := hide k1
  have K2 := hide k2
  have K3 := hide k3
  clear k1 k2 k3 h hrow hz
  go_enter Tryz.func20, Tryz.ntmps20
  go_wp2_with fail
  refine (unhide K1).mono ?_
  rintro e w1 ⟨⟨old, hold, rfl⟩, hR1, hg1⟩
  have HF1 := hide ((unhide H).next hg1)
  have HR1 := hide hR1
  obtain ⟨M1, hM1⟩ := unhide HRow
  have HRow1 := hide (hM1 _ ((unhide H).next hg1))
  clear hM1
  clear hR1 hg1 K1 H HRow
  have hcase : (∃ o1, old = o1 + 1 ∧ o1 < l.length) ∨ old = 0 := by
    rcases Nat.eq_zero_or_pos old with q | q
    · exact .inr q
    · exact .inl ⟨old - 1, by omega, by omega⟩
  rcases hcase with ⟨o1, rfl, hol⟩ | rfl
  · obtain ⟨b, o, rfl, hb, x0, x1, x2, x3, x4, x5, x6⟩ := row_e (unhide HRow1) o1 hol
    have hs1 := (unhide HZ o1 hol).1
    have key := fun W => isNode_k l[o1].node W (by omega)
    have Key := hide key
    generalize l[o1].node = nd at *
    have d0 : decide ((0 : Int) < (o1 : Int) + 1) = true := decide_eq_true (by omega)
    have d1 : (o1 : Int) < (l.length : Int) := by omega
    clear key
    go_wp2_with fail
    refine (unhide Key _).mono ?_
    rintro e w2 ⟨⟨bb, rfl, hbb⟩, rfl⟩
    have HBB := hide hbb
    clear hbb
    cases bb with
    | true =>
      go_wp2_with fail
      go_ret
      exact ⟨⟨nd, rfl, (unhide HBB).1 (by simp)⟩, unhide HR1, unhide HF1⟩
    | false =>
      go_wp2_with fail
      refine (unhide K2 _ (unhide HR1)).mono ?_
      rintro e w2 ⟨⟨nn, hnn, rfl⟩, hR2, hg2⟩
      have HF2 := hide ((unhide HF1).trans ((unhide HR1).next hg2))
      have HR2 := hide hR2
      clear hR2 hg2 K2 HR1 HF1
      go_wp2_with fail
      go_loopg [6, 8] (nn + 2) (fun g vs vi w' => ∃ (j : Nat) (s : ByteArray), vi = .int .i64 j ∧ j ≤ nn + 1 ∧ g = nn + 2 - j ∧ vs = .string s ∧ s.size = j ∧ Hid (Lets s) ∧ Hid (Ro w' N R a n c K) ∧ Hid (RFrame N w w'))
      case atStart => exact ⟨0, ⟨#[]⟩, rfl, Nat.zero_le _, rfl, rfl, rfl, hide (fun i hi => absurd hi (Nat.not_lt_zero i)), HR2, HF2⟩
      case round =>
        clear HR2 HF2
        obtain ⟨j, s, rfl, hj, rfl, rfl, hsj, HL, HR, HF⟩ := hrel
        by_cases cj : j < nn + 1
        · go_wp2_with fail
          refine (unhide K3 _ (unhide HR)).mono ?_
          rintro e w3 ⟨⟨q, hq, rfl⟩, hR3, hg3⟩
          have HF3 := hide ((unhide HF).trans ((unhide HR).next hg3))
          have HR3 := hide hR3
          have HL3 := hide (lets_more (unhide HL) hq)
          have hz3 : (s ++ lettersB.extract q (q + 1)).size = j + 1 := by rw [ByteArray.size_append, (letter_one q hq).1, hsj]
          have HZ3 := hide hz3
          clear hR3 hg3 HR HF HL hz3
          have hss : s.size ≤ 15 := by omega
          have HSJ := hide hsj
          clear hsj
          go_wp2_with fail
          go_roundg (nn + 2 - (j + 1))
          case measure => omega
          case rel => exact ⟨j + 1, s ++ lettersB.extract q (q + 1), by go_num, by omega, rfl, rfl, unhide HZ3, HL3, HR3, HF3⟩
        · have ej : j = nn + 1 := by omega
          go_wp2_with fail
          go_ret
          refine ⟨⟨s, rfl, unhide HL, by omega, by omega⟩, unhide HR, unhide HF⟩
  · skip
    · skip
      have d0 : decide ((0 : Int) < 0) = false := by decide
      go_wp2_with fail
      refine (unhide K2 _ (unhide HR1)).mono ?_
      rintro e w2 ⟨⟨nn, hnn, rfl⟩, hR2, hg2⟩
      have HF2 := hide ((unhide HF1).trans ((unhide HR1).next hg2))
      have HR2 := hide hR2
      clear hR2 hg2 K2 HR1 HF1
      go_wp2_with fail
      go_loopg [6, 8] (nn + 2) (fun g vs vi w' => ∃ (j : Nat) (s : ByteArray), vi = .int .i64 j ∧ j ≤ nn + 1 ∧ g = nn + 2 - j ∧ vs = .string s ∧ s.size = j ∧ Hid (Lets s) ∧ Hid (Ro w' N R a n c K) ∧ Hid (RFrame N w w'))
      case atStart => exact ⟨0, ⟨#[]⟩, rfl, Nat.zero_le _, rfl, rfl, rfl, hide (fun i hi => absurd hi (Nat.not_lt_zero i)), HR2, HF2⟩
      case round =>
        clear HR2 HF2
        obtain ⟨j, s, rfl, hj, rfl, rfl, hsj, HL, HR, HF⟩ := hrel
        by_cases cj : j < nn + 1
        · go_wp2_with fail
          refine (unhide K3 _ (unhide HR)).mono ?_
          rintro e w3 ⟨⟨q, hq, rfl⟩, hR3, hg3⟩
          have HF3 := hide ((unhide HF).trans ((unhide HR).next hg3))
          have HR3 := hide hR3
          have HL3 := hide (lets_more (unhide HL) hq)
          have hz3 : (s ++ lettersB.extract q (q + 1)).size = j + 1 := by rw [ByteArray.size_append, (letter_one q hq).1, hsj]
          have HZ3 := hide hz3
          clear hR3 hg3 HR HF HL hz3
          have hss : s.size ≤ 15 := by omega
          have HSJ := hide hsj
          clear hsj
          go_wp2_with fail
          go_roundg (nn + 2 - (j + 1))
          case measure => omega
          case rel => exact ⟨j + 1, s ++ lettersB.extract q (q + 1), by go_num, by omega, rfl, rfl, unhide HZ3, HL3, HR3, HF3⟩
        · have ej : j = nn + 1 := by omega
          go_wp2_with fail
          go_ret
          refine ⟨⟨s, rfl, unhide HL, by omega, by omega⟩, unhide HR, unhide HF⟩

end Go.Proofs.YtdhobdmhnocbgabGreat

namespace Go.Proofs.YtdhobdmhnocbgabGreat
open Go.RowKit Zr

/-- News of a node that is alive. -/
def AliveOf (nd : ByteArray) (ic : Int) (e : Ending) : Prop := ∃ x : Ev, e = .returned x.val ∧ x.kind = 1 ∧ x.node = nd ∧ x.inc = ic ∧ aliveOk x

/-- Where news are being made: their block behind the result's, the rolls, what was there before. -/
structure EAt (w0 : World) (N R : Nat) (a : Option Addr) (n c : Nat) (K : List ByteArray) (P : Nat) (ps cs : Array Value) (w : World) : Prop where
  ro : Ro w N R a n c K
  pa : w.heap[P]? = some (.cells ps 56 (0, 0))
  xa : w.heap[P + 1]? = some (.cells cs 56 (0, 0))
  fr : RFrame N w0 w
  old : w0.heap.size ≤ P
  low : N ≤ P

theorem EAt.call {w0 w w1 : World} {N R : Nat} {a : Option Addr} {n c : Nat} {K K' : List ByteArray} {P : Nat} {ps cs : Array Value} (h : EAt w0 N R a n c K P ps cs w) (hr : Ro w1 N R a n c K') (hf : RFrame N w w1) : EAt w0 N R a n c K' P ps cs w1 :=
  ⟨hr, hf.kind _ _ _ _ h.pa (by decide) (by decide) (by decide), hf.kind _ _ _ _ h.xa (by decide) (by decide) (by decide), h.fr.trans hf, h.old, h.low⟩
theorem EAt.set {w0 w : World} {N R : Nat} {a : Option Addr} {n c : Nat} {K : List ByteArray} {P : Nat} {ps cs : Array Value} (h : EAt w0 N R a n c K P ps cs w) (o : Nat) (v : Value) : EAt w0 N R a n c K P ps (cs.setIfInBounds o v) (w.setCell ⟨P + 1, o, none⟩ v) :=
  ⟨h.ro.set h.xa (by decide) (by decide) (by have := h.low; omega) o v, (blk_set_other (by omega) _ _).trans h.pa, blk_set h.xa o v, h.fr.set (by have := h.old; omega) o v, h.old, h.low⟩
def Sz4 (m : Nat) : Prop := m = 4 ∨ m = 16

end Go.Proofs.YtdhobdmhnocbgabGreat

namespace Go.Proofs.YtdhobdmhnocbgabGreat
open Go.RowKit Zr

/-- The list without what a node has of the greatest Inc. -/
def restL (nd : ByteArray) (l : List Ev) : List Ev := l.filter fun x => !decide (x.node = nd ∧ x.inc = 2147483647)

/-- v is above all that the list has of the node below the greatest Inc. -/
def Above (nd : ByteArray) (l : List Ev) (v : Int) : Prop := ∀ x, x ∈ l → x.node = nd → x.inc < 2147483647 → x.inc < v

/-- What newest answers. -/
def NewOut (nd : ByteArray) (l : List Ev) (w : World) (e : Ending) (w' : World) : Prop :=
  ∃ (a : Option Addr) (c : Nat) (v : Nat), e = .returned (.tuple #[.slice a (restL nd l).length c, .int .i64 v]) ∧ v ≤ 2147483647 ∧ Above nd (restL nd l) v ∧ w'.ownsRow w.heap.size 56 7 (.slice a (restL nd l).length c) (restL nd l).length (evC (restL nd l)) ∧ Below w.heap.size w w'

end Go.Proofs.YtdhobdmhnocbgabGreat

namespace Go.Proofs.YtdhobdmhnocbgabGreat
open Go.RowKit Zr

/-- One more at any place. -/
def AmongOut (w : World) (l : List Ev) (x : Ev) (n : Nat) (e : Ending) (w' : World) : Prop := ∃ k, k ≤ n ∧ EvsOut w (l.take k ++ x :: l.drop k) e w'

end Go.Proofs.YtdhobdmhnocbgabGreat

namespace Go.Proofs.YtdhobdmhnocbgabGreat
open Go.RowKit Zr

end Go.Proofs.YtdhobdmhnocbgabGreat

namespace Go.Proofs.YtdhobdmhnocbgabGreat
open Go.RowKit Zr

theorem own_atN {w : World} {N : Nat} {e : TypeId} {size : Nat} {a : Option Addr} {n c : Nat} {xs : List Value} (h : w.ownsRow N e size (.slice a n c) n xs) : RowAt w w.heap.size a xs := by
  intro hx
  rcases h.2 with ⟨_, h0⟩ | ⟨g, cap, cur, h0, _, hg, _⟩
  · have := h.1
    rw [h0, Nat.zero_mul] at this
    exact absurd (List.eq_nil_of_length_eq_zero this) hx
  · cases h0
    refine ⟨g, 0, rfl, blk_lt hg, fun j u hu => ?_⟩
    have e := h.cells (g := g) rfl j u hu
    rw [Addr.add_lit] at e
    exact e

end Go.Proofs.YtdhobdmhnocbgabGreat
