/-
  Plain: a stream, cut into messages; a stream that comes in chunks.
-/
/-
  Walks over zonekeep: a node's name; records counted.
-/
/-
  Plain: the news with the greatest Inc of a node say all that the zone has of it.
-/
/-
  Walks over zonekeep: are the records of a node just what the news say?
-/
/-
  Walks over zonekeep: a node's name out of raw numbers; news of a node that is alive.
-/
/-
  Walks over zonekeep: news of a node that is alive.
-/
/-
  Walks over zonekeep: the least Inc above all that a list has of a node.
-/
/-
  Walks over zonekeep: one more among the news.
-/
/-
  Walks over zonekeep: fixed.
-/
/-
  Walks over zonekeep: Newest.
-/
import Derived.Test.YtdhobdmhnocbgaaQMsgs
import Derived.Test.YtdhobdmhnocbgaaQRefP
import Derived.Test.YtdhobdmhnocbgaaQOpnE
import Derived.Test.YtdhobdmhnocbgaaQRolD
import Derived.Test.YtdhobdmhnocbgaaQMwG
namespace Go.Proofs.Ytdhobdmhnocbgaa.Zr

/-- The messages that are whole from k on, and how many bytes are left behind them. -/
def cutP (s : ByteArray) (k : Nat) : List ByteArray × Nat :=
  if _h : k + 2 ≤ s.size ∧ k + 2 + num s k 2 ≤ s.size then
    (s.extract (k + 2) (k + 2 + num s k 2) :: (cutP s (k + 2 + num s k 2)).1, (cutP s (k + 2 + num s k 2)).2)
  else ([], s.size - k)
termination_by s.size - k

theorem cut_no {s : ByteArray} {k : Nat} (h : ¬ (k + 2 ≤ s.size ∧ k + 2 + num s k 2 ≤ s.size)) : cutP s k = ([], s.size - k) := by
  rw [cutP, dif_neg h]
theorem cut_yes {s : ByteArray} {k : Nat} (h : k + 2 ≤ s.size ∧ k + 2 + num s k 2 ≤ s.size) : cutP s k = (s.extract (k + 2) (k + 2 + num s k 2) :: (cutP s (k + 2 + num s k 2)).1, (cutP s (k + 2 + num s k 2)).2) := by
  rw [cutP, dif_pos h]

theorem num_left (a b : ByteArray) (k : Nat) : ∀ n, k + n ≤ a.size → num (a ++ b) k n = num a k n
  | 0, _ => rfl
  | n + 1, h => by
    unfold num
    rw [num_left a b k n (by omega), bt_append, if_pos (by omega)]

theorem ext_left (a b : ByteArray) (i j : Nat) (h1 : i ≤ j) (h2 : j ≤ a.size) : (a ++ b).extract i j = a.extract i j := by
  have hs : (a ++ b).size = a.size + b.size := ByteArray.size_append
  refine bt_ext ?_ fun k hk => ?_
  · rw [size_extract' _ _ _ h1 (by omega), size_extract' _ _ _ h1 h2]
  · rw [size_extract' _ _ _ h1 (by omega)] at hk
    rw [bt_ex _ _ _ _ hk (by omega), bt_ex _ _ _ _ hk h2, bt_append, if_pos (by omega)]

theorem ext_mid (s : ByteArray) (k i j : Nat) (h1 : i ≤ j) (h2 : k + j ≤ s.size) : (s.extract k s.size).extract i j = s.extract (k + i) (k + j) := by
  have hs := extract_size s k (by omega)
  refine bt_ext ?_ fun m hm => ?_
  · rw [size_extract' _ _ _ h1 (by omega), size_extract' _ _ _ (by omega) h2]
    omega
  · rw [size_extract' _ _ _ h1 (by omega)] at hm
    rw [bt_ex _ _ _ _ hm (by omega), bt_ex _ _ _ _ (by omega) h2, bt_tail _ _ _ (by omega)]
    congr 1
    omega

theorem cut_le (s : ByteArray) (k : Nat) : (cutP s k).2 ≤ s.size - k := by
  by_cases h : k + 2 ≤ s.size ∧ k + 2 + num s k 2 ≤ s.size
  · rw [cut_yes h]
    have := cut_le s (k + 2 + num s k 2)
    simp only
    omega
  · rw [cut_no h]
    exact Nat.le_refl _
termination_by s.size - k

/-- What is whole stays so when more comes. -/
theorem cut_append (a b : ByteArray) (k : Nat) (hk : k ≤ a.size) : cutP (a ++ b) k = ((cutP a k).1 ++ (cutP (a ++ b) (a.size - (cutP a k).2)).1, (cutP (a ++ b) (a.size - (cutP a k).2)).2) := by
  have hs : (a ++ b).size = a.size + b.size := ByteArray.size_append
  by_cases h : k + 2 ≤ a.size ∧ k + 2 + num a k 2 ≤ a.size
  · have e := num_left a b k 2 h.1
    have h' : k + 2 ≤ (a ++ b).size ∧ k + 2 + num (a ++ b) k 2 ≤ (a ++ b).size := by rw [e]; omega
    have ih := cut_append a b (k + 2 + num a k 2) h.2
    rw [cut_yes h', cut_yes h, e, ext_left a b _ _ (by omega) h.2]
    have i1 := congrArg Prod.fst ih
    have i2 := congrArg Prod.snd ih
    simp only at i1 i2
    simp only [List.cons_append]
    rw [i1, i2]
  · rw [cut_no h]
    simp only [List.nil_append]
    rw [show a.size - (a.size - k) = k by omega]
termination_by a.size - k

theorem cut_shift (s : ByteArray) (k j : Nat) (hk : k ≤ s.size) : cutP s (k + j) = cutP (s.extract k s.size) j := by
  have hs := extract_size s k hk
  by_cases h : k + j + 2 ≤ s.size ∧ k + j + 2 + num s (k + j) 2 ≤ s.size
  · have e := num_tail s k j 2 (by omega)
    have h' : j + 2 ≤ (s.extract k s.size).size ∧ j + 2 + num (s.extract k s.size) j 2 ≤ (s.extract k s.size).size := by rw [e]; omega
    have ih := cut_shift s k (j + 2 + num s (k + j) 2) hk
    rw [cut_yes h, cut_yes h', e, ext_mid s k _ _ (by omega) (by omega), ← ih]
    rw [show k + j + 2 + num s (k + j) 2 = k + (j + 2 + num s (k + j) 2) by omega, show k + j + 2 = k + (j + 2) by omega]
  · have h' : ¬ (j + 2 ≤ (s.extract k s.size).size ∧ j + 2 + num (s.extract k s.size) j 2 ≤ (s.extract k s.size).size) := fun h' => by
      have e := num_tail s k j 2 (by omega)
      rw [e] at h'
      exact h (by omega)
    rw [cut_no h, cut_no h']
    rw [show (s.extract k s.size).size - j = s.size - (k + j) by omega]
termination_by s.size - j

/-- What is left behind the whole messages. -/
def leftP (s : ByteArray) : ByteArray := s.extract (s.size - (cutP s 0).2) s.size

theorem left_size (s : ByteArray) : (leftP s).size = (cutP s 0).2 := by
  have := cut_le s 0
  unfold leftP
  rw [extract_size _ _ (by omega)]
  omega

theorem tail_append (a b : ByteArray) (k : Nat) (h : k ≤ a.size) : (a ++ b).extract k (a ++ b).size = a.extract k a.size ++ b := by
  have hs : (a ++ b).size = a.size + b.size := ByteArray.size_append
  have h1 := extract_size a k h
  refine bt_ext ?_ fun m hm => ?_
  · rw [extract_size (a ++ b) k (by omega), ByteArray.size_append, ByteArray.size_append, h1]
    omega
  · rw [extract_size _ _ (by omega)] at hm
    rw [bt_tail _ _ _ (by omega), bt_append, bt_append, h1]
    by_cases c : k + m < a.size
    · rw [if_pos c, if_pos (by omega), bt_tail _ _ _ c]
    · rw [if_neg c, if_neg (by omega)]
      congr 1
      omega

/-- A chunk more: the old messages, and those of what was left and the chunk. -/
theorem cut_chunk (a b : ByteArray) : cutP (a ++ b) 0 = ((cutP a 0).1 ++ (cutP (leftP a ++ b) 0).1, (cutP (leftP a ++ b) 0).2) := by
  have h := cut_le a 0
  have hs : (a ++ b).size = a.size + b.size := ByteArray.size_append
  have e := cut_append a b 0 (Nat.zero_le _)
  have e2 := cut_shift (a ++ b) (a.size - (cutP a 0).2) 0 (by omega)
  rw [tail_append a b _ (by omega)] at e2
  rw [Nat.add_zero] at e2
  rw [e2] at e
  exact e

theorem left_chunk (a b : ByteArray) : leftP (a ++ b) = leftP (leftP a ++ b) := by
  have h := cut_le a 0
  have h2 := cut_le (leftP a ++ b) 0
  have hs : (a ++ b).size = a.size + b.size := ByteArray.size_append
  have hl := left_size a
  have hs2 : (leftP a ++ b).size = (leftP a).size + b.size := ByteArray.size_append
  have e : (cutP (a ++ b) 0).2 = (cutP (leftP a ++ b) 0).2 := by rw [cut_chunk]
  have hx : (leftP a ++ b).size = (a ++ b).size - (a.size - (cutP a 0).2) := by omega
  have t2 : (a ++ b).extract (a.size - (cutP a 0).2) (a ++ b).size = leftP a ++ b := tail_append a b (a.size - (cutP a 0).2) (by omega)
  have m := ext_mid (a ++ b) (a.size - (cutP a 0).2) ((leftP a ++ b).size - (cutP (leftP a ++ b) 0).2) (leftP a ++ b).size (by omega) (by omega)
  rw [t2] at m
  show (a ++ b).extract ((a ++ b).size - (cutP (a ++ b) 0).2) (a ++ b).size = (leftP a ++ b).extract ((leftP a ++ b).size - (cutP (leftP a ++ b) 0).2) (leftP a ++ b).size
  rw [e, m]
  congr 1 <;> omega

end Go.Proofs.Ytdhobdmhnocbgaa.Zr

namespace Go.Proofs.Ytdhobdmhnocbgaa
open Go.RowKit Zr

set_option maxRecDepth 100000 in
set_option maxHeartbeats 2000000 in
theorem isNode_k (s : ByteArray) (w : World) (hs : s.size ≤ 281474976710656) :
    Calls Try.prog 66 #[.string s] w fun e w' => BoolIs (labelOk s) e ∧ w' = w := by
  go_enter Try.func66, Try.ntmps66
  go_wp2_with fail
  go_loop [3] (fun i => ∃ j : Nat, j ≤ s.size ∧ i = .int .i64 j ∧ Hid (∀ m, m < j → labC (bt s m))) (fun i => s.size - (intOf i).toNat)
  case atStart => exact ⟨0, Nat.zero_le _, rfl, hide fun m hm => by omega⟩
  case round =>
    obtain ⟨j, hj, rfl, HL⟩ := hrel
    by_cases cj : j < s.size
    · have hg := bt_get s j cj
      obtain ⟨c, hc⟩ : ∃ c, bt s j = c := ⟨_, rfl⟩
      rw [hc] at hg
      have HC := hide hc
      clear hc
      rcases seven c with h | h | h | h | h | h | h
      all_goals
        (first | have d1 : decide ((c : Int) < (97 : Int)) = true := decide_eq_true (by omega) | have d1 : decide ((c : Int) < (97 : Int)) = false := decide_eq_false (by omega))
        (first | have d2 : decide ((122 : Int) < (c : Int)) = true := decide_eq_true (by omega) | have d2 : decide ((122 : Int) < (c : Int)) = false := decide_eq_false (by omega))
        (first | have d3 : decide ((c : Int) < (48 : Int)) = true := decide_eq_true (by omega) | have d3 : decide ((c : Int) < (48 : Int)) = false := decide_eq_false (by omega))
        (first | have d4 : decide ((57 : Int) < (c : Int)) = true := decide_eq_true (by omega) | have d4 : decide ((57 : Int) < (c : Int)) = false := decide_eq_false (by omega))
        (first | have d5 : ((c : Int) != (45 : Int)) = true := bne_iff_ne.2 (by omega) | have d5 : ((c : Int) != (45 : Int)) = false := by rw [bne_eq_false_iff_eq]; omega)
        go_wp2_with fail
        first
          | (go_round
             case rel =>
               refine ⟨j + 1, by omega, by go_num, hide fun m hm => ?_⟩
               rcases Nat.lt_or_ge m j with k | k
               · exact unhide HL m k
               · have : m = j := by omega
                 subst this
                 rw [unhide HC]
                 unfold labC
                 omega
             case measure => simp [intOf]; omega)
          | (go_ret
             refine ⟨⟨_, rfl, ⟨fun h => by simp at h, fun h => ?_⟩⟩, rfl⟩
             have := h.1 j cj
             rw [unhide HC] at this
             unfold labC at this
             omega)
    · have e : j = s.size := by omega
      subst e
      by_cases c1 : 1 ≤ s.size
      · go_wp2_with fail
        go_ret
        refine ⟨⟨_, rfl, ?_⟩, rfl⟩
        simp only [decide_eq_true_eq]
        exact ⟨fun h => ⟨unhide HL, c1, by omega⟩, fun h => by have := h.2.2; omega⟩
      · go_wp2_with fail
        go_ret
        exact ⟨⟨_, rfl, ⟨fun h => by simp at h, fun h => absurd h.2.1 c1⟩⟩, rfl⟩

set_option maxRecDepth 100000 in
set_option maxHeartbeats 1000000 in
theorem host_k (s : ByteArray) (w : World) (h : s.size < 256) : Calls Try.prog 69 #[.string s] w fun e w' => e = .returned (.string (underP s)) ∧ Below w.heap.size w w' := by
  have HO := hide (one_owns w s.size h)
  have h1 : (one s.size).size = 1 := rfl
  obtain ⟨r, hr⟩ : ∃ r, underP s = r := ⟨_, rfl⟩
  have hr2 : one s.size ++ s ++ originB = r := hr
  rw [hr]
  have HR := hide hr2
  clear hr hr2
  obtain ⟨y, hy⟩ : ∃ y, one s.size = y := ⟨_, rfl⟩
  rw [hy] at HO h1 HR
  have hz : (y ++ s).size = 1 + s.size := by rw [ByteArray.size_append]; omega
  clear hy
  go_enter Try.func69, Try.ntmps69
  go_wp2_with fail
  rw [run_bytes_row _ 105 9 5 Try.underlying105 Try.underlying5 Try.underlying9 w.heap.size _ y (unhide HO)]
  go_wp2_with fail
  go_ret
  exact ⟨by rw [← unhide HR]; rfl, (Below.refl _ _).alloc (Nat.le_refl _) _⟩

/-- How many records have a name and a type. -/
def havP (z : List RI) (nm : ByteArray) (t : Int) : Nat := z.countP fun x => decide (x.name = nm ∧ x.ty = t)
def exaP (z : List RI) (nm : ByteArray) (t : Int) (d : ByteArray) : Nat := z.countP fun x => decide (x.name = nm ∧ x.ty = t ∧ x.data = d ∧ x.cl = 1 ∧ x.ttl = 30)
def offP (z : List RI) (nm : ByteArray) : Nat := z.countP fun x => decide (x.ty = 33 ∧ 6 < x.data.size ∧ x.data.extract 6 x.data.size = nm)

theorem count_take {p : RI → Bool} (z : List RI) (j : Nat) (h : j < z.length) : (z.take (j + 1)).countP p = (z.take j).countP p + (if p z[j] then 1 else 0) := by
  rw [List.take_succ_eq_append_getElem h, List.countP_append]
  congr 1
  rw [List.countP_cons, List.countP_nil]
  simp

theorem count_le {p : RI → Bool} (z : List RI) (j : Nat) : (z.take j).countP p ≤ j := by
  have h1 := List.countP_le_length (p := p) (l := z.take j)
  rw [List.length_take] at h1
  omega

set_option maxRecDepth 100000 in
set_option maxHeartbeats 2000000 in
theorem having_k (z : List RI) (nm : ByteArray) (t : Int) (a : Option Addr) (c N : Nat) (w : World) (hrow : RowAt w N a (rcI z)) (hl : z.length ≤ 134217728) :
    Calls Try.prog 70 #[.slice a z.length c, .string nm, .int .i64 t] w fun e w' => e = .returned (.int .i64 (havP z nm t : Nat)) ∧ w' = w := by
  have HRow := hide hrow
  have HT := hide (fun j h => count_take (p := fun x : RI => decide (x.name = nm ∧ x.ty = t)) z j h)
  have HL := hide (fun j => count_le (p := fun x : RI => decide (x.name = nm ∧ x.ty = t)) z j)
  clear hrow
  go_enter Try.func70, Try.ntmps70
  go_wp2_with fail
  go_loop [7, 8] (fun v i => ∃ (j m : Nat), j ≤ z.length ∧ i = .int .i64 j ∧ v = .int .i64 m ∧ m ≤ j ∧ Hid (havP (z.take j) nm t = m)) (fun _ i => z.length - (intOf i).toNat)
  case atStart => exact ⟨0, 0, Nat.zero_le _, rfl, rfl, Nat.le_refl _, hide rfl⟩
  case round =>
    obtain ⟨j, m, hj, rfl, rfl, hm, HS⟩ := hrel
    by_cases cj : j < z.length
    · obtain ⟨b, o, rfl, _, x0, x1, x2, x3, x4⟩ := row_r (unhide HRow) j cj
      have ht : havP (z.take (j + 1)) nm t = m + (if decide (z[j].name = nm ∧ z[j].ty = t) = true then 1 else 0) := by
        have := unhide HT j cj
        rw [← unhide HS]
        exact this
      generalize z[j] = x at *
      obtain ⟨n0, t0, c0, l0, d0⟩ := x
      simp only at x0 x1 x2 x3 x4 ht
      by_cases cc : n0 = nm ∧ t0 = t
      · rw [decide_eq_true cc, if_pos rfl] at ht
        have HT2 := hide ht
        have f1 := strs_eq cc.1
        have f2 : (t0 == t) = true := by rw [beq_iff_eq]; exact cc.2
        clear ht cc
        go_wp2_with fail
        go_round
        case rel => exact ⟨j + 1, m + 1, by omega, by go_num, by go_num, by omega, HT2⟩
        case measure => simp [intOf]; omega
      · rw [decide_eq_false cc, if_neg (by simp)] at ht
        have HT2 := hide ht
        have hcase : (n0.toList == nm.toList) = false ∨ ((n0.toList == nm.toList) = true ∧ (t0 == t) = false) := by
          by_cases q : n0 = nm
          · exact .inr ⟨strs_eq q, beq_eq_false_iff_ne.2 fun h => cc ⟨q, h⟩⟩
          · exact .inl (strs_ne q)
        clear ht cc
        rcases hcase with f1 | ⟨f1, f2⟩
        all_goals
          go_wp2_with fail
          go_round
          case rel => exact ⟨j + 1, m, by omega, by go_num, rfl, by omega, HT2⟩
          case measure => simp [intOf]; omega
    · have ej : j = z.length := by omega
      subst ej
      have hs := unhide HS
      rw [List.take_length] at hs
      have HS2 := hide hs
      clear hs
      go_wp2_with fail
      go_ret
      exact ⟨by rw [unhide HS2]; rfl, rfl⟩

set_option maxRecDepth 100000 in
set_option maxHeartbeats 2000000 in
theorem exactly_k (z : List RI) (nm : ByteArray) (t : Int) (dd : ByteArray) (a : Option Addr) (c N : Nat) (w : World) (hrow : RowAt w N a (rcI z)) (hl : z.length ≤ 134217728) :
    Calls Try.prog 72 #[.slice a z.length c, .string nm, .int .i64 t, .string dd] w fun e w' => e = .returned (.bool (decide (exaP z nm t dd = 1))) ∧ w' = w := by
  have HRow := hide hrow
  have HT := hide (fun j h => count_take (p := fun x : RI => decide (x.name = nm ∧ x.ty = t ∧ x.data = dd ∧ x.cl = 1 ∧ x.ttl = 30)) z j h)
  have HL := hide (fun j => count_le (p := fun x : RI => decide (x.name = nm ∧ x.ty = t ∧ x.data = dd ∧ x.cl = 1 ∧ x.ttl = 30)) z j)
  clear hrow
  go_enter Try.func72, Try.ntmps72
  go_wp2_with fail
  go_loop [9, 10] (fun v i => ∃ (j m : Nat), j ≤ z.length ∧ i = .int .i64 j ∧ v = .int .i64 m ∧ m ≤ j ∧ Hid (exaP (z.take j) nm t dd = m)) (fun _ i => z.length - (intOf i).toNat)
  case atStart => exact ⟨0, 0, Nat.zero_le _, rfl, rfl, Nat.le_refl _, hide rfl⟩
  case round =>
    obtain ⟨j, m, hj, rfl, rfl, hm, HS⟩ := hrel
    by_cases cj : j < z.length
    · obtain ⟨b, o, rfl, _, x0, x1, x2, x3, x4⟩ := row_r (unhide HRow) j cj
      have ht : exaP (z.take (j + 1)) nm t dd = m + (if decide (z[j].name = nm ∧ z[j].ty = t ∧ z[j].data = dd ∧ z[j].cl = 1 ∧ z[j].ttl = 30) = true then 1 else 0) := by
        have := unhide HT j cj
        rw [← unhide HS]
        exact this
      generalize z[j] = x at *
      obtain ⟨n0, t0, c0, l0, d0⟩ := x
      simp only at x0 x1 x2 x3 x4 ht
      by_cases cc : n0 = nm ∧ t0 = t ∧ d0 = dd ∧ c0 = 1 ∧ l0 = 30
      · rw [decide_eq_true cc, if_pos rfl] at ht
        have HT2 := hide ht
        have f1 := strs_eq cc.1
        have f2 : (t0 == t) = true := by rw [beq_iff_eq]; exact cc.2.1
        have f3 := strs_eq cc.2.2.1
        have f4 : (c0 == 1) = true := by rw [beq_iff_eq]; exact cc.2.2.2.1
        have f5 : (l0 == 30) = true := by rw [beq_iff_eq]; exact cc.2.2.2.2
        clear ht cc
        go_wp2_with fail
        go_round
        case rel => exact ⟨j + 1, m + 1, by omega, by go_num, by go_num, by omega, HT2⟩
        case measure => simp [intOf]; omega
      · rw [decide_eq_false cc, if_neg (by simp)] at ht
        have HT2 := hide ht
        have hcase : (n0.toList == nm.toList) = false ∨ ((n0.toList == nm.toList) = true ∧ (t0 == t) = false) ∨ ((n0.toList == nm.toList) = true ∧ (t0 == t) = true ∧ (d0.toList == dd.toList) = false) ∨ ((n0.toList == nm.toList) = true ∧ (t0 == t) = true ∧ (d0.toList == dd.toList) = true ∧ (c0 == 1) = false) ∨ ((n0.toList == nm.toList) = true ∧ (t0 == t) = true ∧ (d0.toList == dd.toList) = true ∧ (c0 == 1) = true ∧ (l0 == 30) = false) := by
          by_cases q1 : n0 = nm
          · by_cases q2 : t0 = t
            · by_cases q3 : d0 = dd
              · by_cases q4 : c0 = 1
                · exact .inr (.inr (.inr (.inr ⟨strs_eq q1, by rw [beq_iff_eq]; exact q2, strs_eq q3, by rw [beq_iff_eq]; exact q4, beq_eq_false_iff_ne.2 fun h => cc ⟨q1, q2, q3, q4, h⟩⟩)))
                · exact .inr (.inr (.inr (.inl ⟨strs_eq q1, by rw [beq_iff_eq]; exact q2, strs_eq q3, beq_eq_false_iff_ne.2 q4⟩)))
              · exact .inr (.inr (.inl ⟨strs_eq q1, by rw [beq_iff_eq]; exact q2, strs_ne q3⟩))
            · exact .inr (.inl ⟨strs_eq q1, beq_eq_false_iff_ne.2 q2⟩)
          · exact .inl (strs_ne q1)
        clear ht cc
        rcases hcase with f1 | ⟨f1, f2⟩ | ⟨f1, f2, f3⟩ | ⟨f1, f2, f3, f4⟩ | ⟨f1, f2, f3, f4, f5⟩
        all_goals
          go_wp2_with fail
          go_round
          case rel => exact ⟨j + 1, m, by omega, by go_num, rfl, by omega, HT2⟩
          case measure => simp [intOf]; omega
    · have ej : j = z.length := by omega
      subst ej
      have hs := unhide HS
      rw [List.take_length] at hs
      have HS2 := hide hs
      clear hs
      go_wp2_with fail
      go_ret
      refine ⟨ret_bool ?_, rfl⟩
      rw [unhide HS2, Bool.eq_iff_iff]
      simp
      omega

set_option maxRecDepth 100000 in
set_option maxHeartbeats 2000000 in
theorem offering_k (z : List RI) (nm : ByteArray) (a : Option Addr) (c N : Nat) (w : World) (hrow : RowAt w N a (rcI z)) (hl : z.length ≤ 134217728) (hzd : ∀ i (h : i < z.length), z[i].data.size ≤ 4294967296) :
    Calls Try.prog 71 #[.slice a z.length c, .string nm] w fun e w' => e = .returned (.int .i64 (offP z nm : Nat)) ∧ w' = w := by
  have HRow := hide hrow
  have HT := hide (fun j h => count_take (p := fun x : RI => decide (x.ty = 33 ∧ 6 < x.data.size ∧ x.data.extract 6 x.data.size = nm)) z j h)
  have HL := hide (fun j => count_le (p := fun x : RI => decide (x.ty = 33 ∧ 6 < x.data.size ∧ x.data.extract 6 x.data.size = nm)) z j)
  have HZD := hide hzd
  clear hrow hzd
  go_enter Try.func71, Try.ntmps71
  go_wp2_with fail
  go_loop [5, 6] (fun v i => ∃ (j m : Nat), j ≤ z.length ∧ i = .int .i64 j ∧ v = .int .i64 m ∧ m ≤ j ∧ Hid (offP (z.take j) nm = m)) (fun _ i => z.length - (intOf i).toNat)
  case atStart => exact ⟨0, 0, Nat.zero_le _, rfl, rfl, Nat.le_refl _, hide rfl⟩
  case round =>
    obtain ⟨j, m, hj, rfl, rfl, hm, HS⟩ := hrel
    by_cases cj : j < z.length
    · obtain ⟨b, o, rfl, _, x0, x1, x2, x3, x4⟩ := row_r (unhide HRow) j cj
      have ht : offP (z.take (j + 1)) nm = m + (if decide (z[j].ty = 33 ∧ 6 < z[j].data.size ∧ z[j].data.extract 6 z[j].data.size = nm) = true then 1 else 0) := by
        have := unhide HT j cj
        rw [← unhide HS]
        exact this
      have hd := unhide HZD j cj
      generalize z[j] = x at *
      obtain ⟨n0, t0, c0, l0, d0⟩ := x
      simp only at x0 x1 x2 x3 x4 ht hd
      by_cases cc : t0 = 33 ∧ 6 < d0.size ∧ d0.extract 6 d0.size = nm
      · rw [decide_eq_true cc, if_pos rfl] at ht
        have HT2 := hide ht
        have f1 : (t0 == 33) = true := by rw [beq_iff_eq]; exact cc.1
        have f2 := cc.2.1
        have f3 := strs_eq cc.2.2
        clear ht cc
        go_wp2_with fail
        go_round
        case rel => exact ⟨j + 1, m + 1, by omega, by go_num, by go_num, by omega, HT2⟩
        case measure => simp [intOf]; omega
      · rw [decide_eq_false cc, if_neg (by simp)] at ht
        have HT2 := hide ht
        have hcase : (t0 == 33) = false ∨ ((t0 == 33) = true ∧ d0.size ≤ 6) ∨ ((t0 == 33) = true ∧ 6 < d0.size ∧ ((d0.extract 6 d0.size).toList == nm.toList) = false) := by
          by_cases q1 : t0 = 33
          · by_cases q2 : 6 < d0.size
            · exact .inr (.inr ⟨by rw [beq_iff_eq]; exact q1, q2, strs_ne fun h => cc ⟨q1, q2, h⟩⟩)
            · exact .inr (.inl ⟨by rw [beq_iff_eq]; exact q1, by omega⟩)
          · exact .inl (beq_eq_false_iff_ne.2 q1)
        clear ht cc
        rcases hcase with f1 | ⟨f1, f2⟩ | ⟨f1, f2, f3⟩
        all_goals
          go_wp2_with fail
          go_round
          case rel => exact ⟨j + 1, m, by omega, by go_num, rfl, by omega, HT2⟩
          case measure => simp [intOf]; omega
    · have ej : j = z.length := by omega
      subst ej
      have hs := unhide HS
      rw [List.take_length] at hs
      have HS2 := hide hs
      clear hs
      go_wp2_with fail
      go_ret
      exact ⟨by rw [unhide HS2]; rfl, rfl⟩

end Go.Proofs.Ytdhobdmhnocbgaa

namespace Go.Proofs.Ytdhobdmhnocbgaa
open Zr

theorem under_size (s : ByteArray) : (underP s).size = s.size + 11 := by
  unfold underP
  rw [ByteArray.size_append, ByteArray.size_append]
  show 1 + s.size + 10 = _
  omega
theorem under_inj {x y : ByteArray} (h : underP x = underP y) : x = y := by
  have hs : x.size = y.size := by have := congrArg ByteArray.size h; rw [under_size, under_size] at this; omega
  refine bt_ext hs fun i hi => ?_
  have h1 : bt (underP x) (1 + i) = bt x i := by
    unfold underP
    rw [ByteArray.append_assoc, bt_append, if_neg (by show ¬ (1 + i < 1); omega), bt_append, if_pos (by show 1 + i - 1 < _; omega)]
    show bt x (1 + i - 1) = _
    rw [Nat.add_sub_cancel_left]
  have h2 : bt (underP y) (1 + i) = bt y i := by
    unfold underP
    rw [ByteArray.append_assoc, bt_append, if_neg (by show ¬ (1 + i < 1); omega), bt_append, if_pos (by show 1 + i - 1 < _; omega)]
    show bt y (1 + i - 1) = _
    rw [Nat.add_sub_cancel_left]
  rw [← h1, ← h2, h]

theorem ev_split {A B : List Ev} {e : Ev} : evAt (A ++ e :: B) A.length = e := by
  unfold evAt
  simp

/-- All else of the node is older. -/
def Older (l : List Ev) (e : Ev) : Prop := ∀ x, x ∈ l → goodE x → x.node = e.node → x.inc < e.inc

theorem rather_older {x e : Ev} (h : x.inc < e.inc) : ¬ ratherE x e ∧ ratherE e x := by
  unfold ratherE
  rw [if_pos (by omega), if_pos (by omega)]
  exact ⟨by omega, h⟩

theorem at_split {A B : List Ev} {e : Ev} {k : Nat} (hk : k < (A ++ e :: B).length) (hne : k ≠ A.length) : evAt (A ++ e :: B) k ∈ A ++ B := by
  rw [ev_at hk]
  rcases Nat.lt_or_ge k A.length with q | q
  · rw [List.getElem_append_left q]
    exact List.mem_append_left _ (List.getElem_mem _)
  · rw [List.getElem_append_right q, List.getElem_cons, dif_neg (by omega)]
    exact List.mem_append_right _ (List.getElem_mem _)

theorem new_counts {A B : List Ev} {e : Ev} (hg : goodE e) (ho : Older (A ++ B) e) : countsE (A ++ e :: B) A.length := by
  unfold countsE
  rw [ev_split]
  refine ⟨hg, fun k hk hb => ?_⟩
  obtain ⟨b1, b2, b3⟩ := hb
  rw [ev_split] at b2 b3
  by_cases c : k = A.length
  · subst c
    rw [ev_split] at b3
    rcases b3 with b3 | ⟨_, b4⟩
    · exact rather_irrefl _ b3
    · omega
  · obtain ⟨r1, r2⟩ := rather_older (ho _ (at_split hk c) b1 b2)
    rcases b3 with b3 | ⟨b3, _⟩
    · exact r1 b3
    · exact b3 r2

theorem new_up {A B : List Ev} {e : Ev} (hg : goodE e) (ho : Older (A ++ B) e) (hk : e.kind = 1) : e ∈ upP (A ++ e :: B) := by
  rw [(upP_spec _).2]
  exact ⟨A.length, by simp, new_counts hg ho, by rw [ev_split]; exact hk, ev_split.symm⟩

theorem gone_up {A B : List Ev} {e : Ev} (hg : goodE e) (ho : Older (A ++ B) e) (hk : e.kind = 2) : ∀ u, u ∈ upP (A ++ e :: B) → u.node ≠ e.node := by
  intro u hu hn
  obtain ⟨k, hk1, hc, hk2, rfl⟩ := ((upP_spec _).2 u).1 hu
  have hne : k ≠ A.length := fun h => by subst h; rw [ev_split, hk] at hk2; exact absurd hk2 (by decide)
  obtain ⟨_, r2⟩ := rather_older (ho _ (at_split hk1 hne) hc.1 hn)
  refine hc.2 A.length (by simp) ⟨?_, ?_, .inl ?_⟩
  · rw [ev_split]; exact hg
  · rw [ev_split]; exact hn.symm
  · rw [ev_split]; exact r2

theorem up_split {up : List Ev} (hr : Rising up) {e : Ev} (he : e ∈ up) : ∃ U V, up = U ++ e :: V ∧ (∀ u, u ∈ U → u.node ≠ e.node) ∧ (∀ u, u ∈ V → u.node ≠ e.node) := by
  obtain ⟨U, V, rfl⟩ := List.append_of_mem he
  obtain ⟨_, h2, h3⟩ := List.pairwise_append.1 hr
  obtain ⟨h4, _⟩ := List.pairwise_cons.1 h2
  exact ⟨U, V, rfl, fun u hu => ltS_ne (h3 u hu e (by simp)), fun u hu h => ltS_ne (h4 u hu) h.symm⟩

/-- Every record of the aliases. -/
theorem ali_rec {up : List Ev} {r : RI} (h : r ∈ (aliTo up up.length).1) : ∃ a, bearP up a ≠ ⟨#[]⟩ ∧ r = madeR (underP a) 5 (underP (bearP up a)) := by
  obtain ⟨⟨S, _, _, _, _, h5⟩, _⟩ := al_inv up up.length
  rw [h5] at h
  obtain ⟨a, _, ha⟩ := List.mem_filterMap.1 h
  unfold aliR at ha
  split at ha
  · cases ha
  · next hb => cases ha; exact ⟨a, hb, rfl⟩

theorem cnt_zero {p : RI → Bool} {l : List RI} (h : ∀ x, x ∈ l → p x = false) : l.countP p = 0 := by
  rw [List.countP_eq_zero]
  intro x hx
  rw [h x hx]
  simp

/-- A count that speaks of the nodes' own records and services alone. -/
structure Own (up : List Ev) (node : ByteArray) (p : RI → Bool) : Prop where
  head : ∀ x, x = madeR originB 6 x.data ∨ x = madeR originB 2 serverB → p x = false
  ali : ∀ a, a ≠ node ∨ isUp up node → bearP up a ≠ ⟨#[]⟩ → p (madeR (underP a) 5 (underP (bearP up a))) = false
  host : ∀ u, u.node ≠ node → ∀ x, x ∈ nodeR u → p x = false
  srv : ∀ u, u.node ≠ node → p (srvR u) = false

theorem count_all {L : List Ev} {p : RI → Bool} {node : ByteArray} (hp : Own (upP L) node p) (hup : isUp (upP L) node ∨ ∀ a, p (madeR (underP a) 5 (underP (bearP (upP L) a))) = false) :
    (recordsP L).countP p = ((upP L).flatMap nodeR).countP p + ((upP L).map srvR).countP p := by
  unfold recordsP
  rw [List.countP_append, List.countP_append, List.countP_append]
  have h1 : ([madeR originB 6 (soaB (serTo L L.length).toNat), madeR originB 2 serverB] : List RI).countP p = 0 := cnt_zero fun x hx => by
    simp only [List.mem_cons, List.not_mem_nil, or_false] at hx
    rcases hx with rfl | rfl
    · exact hp.head _ (.inl rfl)
    · exact hp.head _ (.inr rfl)
  have h2 : ((aliTo (upP L) (upP L).length).1).countP p = 0 := cnt_zero fun x hx => by
    obtain ⟨a, hb, rfl⟩ := ali_rec hx
    rcases hup with h | h
    · exact hp.ali a (.inr h) hb
    · exact h a
  rw [h1, h2]
  omega

theorem host_zero {U : List Ev} {p : RI → Bool} {node : ByteArray} {up : List Ev} (hp : Own up node p) (h : ∀ u, u ∈ U → u.node ≠ node) : (U.flatMap nodeR).countP p = 0 :=
  cnt_zero fun x hx => by obtain ⟨u, hu, hx⟩ := List.mem_flatMap.1 hx; exact hp.host u (h u hu) x hx
theorem srv_zero {U : List Ev} {p : RI → Bool} {node : ByteArray} {up : List Ev} (hp : Own up node p) (h : ∀ u, u ∈ U → u.node ≠ node) : (U.map srvR).countP p = 0 :=
  cnt_zero fun x hx => by obtain ⟨u, hu, rfl⟩ := List.mem_map.1 hx; exact hp.srv u (h u hu)

theorem count_one {L : List Ev} {p : RI → Bool} {e : Ev} (hp : Own (upP L) e.node p) (he : e ∈ upP L) : (recordsP L).countP p = (nodeR e).countP p + (if p (srvR e) then 1 else 0) := by
  rw [count_all hp (.inl ⟨e, he, rfl⟩)]
  obtain ⟨U, V, hUV, hU, hV⟩ := up_split (upP_spec L).1 he
  rw [hUV, List.flatMap_append, List.flatMap_cons, List.countP_append, List.countP_append, host_zero hp hU, host_zero hp hV, List.map_append, List.map_cons, List.countP_append, List.countP_cons, srv_zero hp hU, srv_zero hp hV]
  omega

theorem count_none {L : List Ev} {p : RI → Bool} {node : ByteArray} (hp : Own (upP L) node p) (hal : ∀ a, p (madeR (underP a) 5 (underP (bearP (upP L) a))) = false) (hn : ∀ u, u ∈ upP L → u.node ≠ node) : (recordsP L).countP p = 0 := by
  rw [count_all hp (.inr hal), host_zero hp hn, srv_zero hp hn]

theorem nodeR_name {u : Ev} {x : RI} (h : x ∈ nodeR u) : x.name = underP u.node ∧ (x.ty = 1 ∨ x.ty = 28 ∨ x.ty = 16) ∧ x.cl = 1 ∧ x.ttl = 30 := by
  unfold nodeR at h
  rcases List.mem_cons.1 h with rfl | h
  · refine ⟨rfl, ?_, rfl, rfl⟩
    show (if u.addr.size = 16 then (28 : Int) else 1) = 1 ∨ _ = 28 ∨ _
    split
    · exact .inr (.inl rfl)
    · exact .inl rfl
  · split at h
    · simp at h
    · rw [List.mem_singleton] at h
      subst h
      exact ⟨rfl, .inr (.inr rfl), rfl, rfl⟩

theorem bear_up {up : List Ev} {a : ByteArray} (h : isUp up a) : bearP up a = ⟨#[]⟩ := by
  unfold bearP
  obtain ⟨u, hu, hn⟩ := h
  obtain ⟨i, hi, rfl⟩ := mem_ev hu
  rw [if_pos ⟨i, hi, hn⟩]

/-- By name and type. -/
theorem own_hav (up : List Ev) (node : ByteArray) (t : Int) (ht : t = 1 ∨ t = 28 ∨ t = 16 ∨ t = 5) : Own up node fun x => decide (x.name = underP node ∧ x.ty = t) := by
  refine ⟨fun x hx => decide_eq_false fun h => ?_, fun a ha hb => decide_eq_false fun h => ?_, fun u hu x hx => decide_eq_false fun h => ?_, fun u _ => decide_eq_false fun h => ?_⟩
  · have : x.ty = 6 ∨ x.ty = 2 := by rcases hx with hx | hx <;> rw [hx]; exact .inl rfl; exact .inr rfl
    omega
  · have e := under_inj h.1
    rcases ha with ha | ha
    · exact ha e
    · rw [e] at hb; exact hb (bear_up ha)
  · exact hu (under_inj ((nodeR_name hx).1.symm.trans h.1))
  · have h2 : (33 : Int) = t := h.2
    omega

theorem srv_data (u : Ev) : (srvR u).data.size = 6 + (underP u.node).size ∧ (srvR u).data.extract 6 (srvR u).data.size = underP u.node := by
  have e : (srvR u).data = (q4 0 ++ wd u.port.toNat) ++ underP u.node := rfl
  have hz : (q4 0 ++ wd u.port.toNat).size = 6 := rfl
  rw [e]
  constructor
  · rw [ByteArray.size_append, hz]
  · rw [tail_append _ _ 6 (by rw [hz]; exact Nat.le_refl _)]
    have := extract_self (q4 0 ++ wd u.port.toNat) 6
    rw [hz, this]
    exact ByteArray.empty_append

theorem own_off (up : List Ev) (node : ByteArray) : Own up node fun x => decide (x.ty = 33 ∧ 6 < x.data.size ∧ x.data.extract 6 x.data.size = underP node) := by
  refine ⟨fun x hx => decide_eq_false fun h => ?_, fun a ha hb => decide_eq_false fun h => ?_, fun u hu x hx => decide_eq_false fun h => ?_, fun u hu => decide_eq_false fun h => ?_⟩
  · have : x.ty = 6 ∨ x.ty = 2 := by rcases hx with hx | hx <;> rw [hx]; exact .inl rfl; exact .inr rfl
    omega
  · exact absurd (show (5 : Int) = 33 from h.1) (by decide)
  · have := (nodeR_name hx).2.1
    omega
  · exact hu (under_inj ((srv_data u).2.symm.trans h.2.2))

theorem own_exa (up : List Ev) (node : ByteArray) (t : Int) (d : ByteArray) (ht : t = 1 ∨ t = 28 ∨ t = 16) : Own up node fun x => decide (x.name = underP node ∧ x.ty = t ∧ x.data = d ∧ x.cl = 1 ∧ x.ttl = 30) := by
  have h := own_hav up node t (by omega)
  refine ⟨fun x hx => ?_, fun a ha hb => ?_, fun u hu x hx => ?_, fun u hu => ?_⟩
  · exact decide_eq_false fun q => absurd (h.head x hx) (by rw [decide_eq_true ⟨q.1, q.2.1⟩]; simp)
  · exact decide_eq_false fun q => absurd (h.ali a ha hb) (by rw [decide_eq_true ⟨q.1, q.2.1⟩]; simp)
  · exact decide_eq_false fun q => absurd (h.host u hu x hx) (by rw [decide_eq_true ⟨q.1, q.2.1⟩]; simp)
  · exact decide_eq_false fun q => absurd (h.srv u hu) (by rw [decide_eq_true ⟨q.1, q.2.1⟩]; simp)

theorem own_svc (up : List Ev) (node d6 : ByteArray) (hd : d6.size = 6) : Own up node fun x => decide (x.name = serviceB ∧ x.ty = 33 ∧ x.data = d6 ++ underP node ∧ x.cl = 1 ∧ x.ttl = 30) := by
  refine ⟨fun x hx => decide_eq_false fun h => ?_, fun a ha hb => decide_eq_false fun h => ?_, fun u hu x hx => decide_eq_false fun h => ?_, fun u hu => decide_eq_false fun h => ?_⟩
  · have : x.ty = 6 ∨ x.ty = 2 := by rcases hx with hx | hx <;> rw [hx]; exact .inl rfl; exact .inr rfl
    omega
  · exact absurd (show (5 : Int) = 33 from h.2.1) (by decide)
  · have := (nodeR_name hx).2.1
    omega
  · have h2 := (srv_data u).2
    rw [h.2.2.1, tail_append _ _ 6 (by omega)] at h2
    have := extract_self d6 6
    rw [← hd] at this h2
    rw [this] at h2
    exact hu (under_inj (h2.symm.trans ByteArray.empty_append))

def kindOf (e : Ev) : Int := if e.addr.size = 16 then 28 else 1

/-- What the zone has of a node that is up. -/
structure Has (z : List RI) (e : Ev) : Prop where
  addr : havP z (underP e.node) 1 + havP z (underP e.node) 28 = 1
  text : havP z (underP e.node) 16 = if e.text = ⟨#[]⟩ then 0 else 1
  cname : havP z (underP e.node) 5 = 0
  off : offP z (underP e.node) = 1
  exA : exaP z (underP e.node) (kindOf e) e.addr = 1
  exT : e.text ≠ ⟨#[]⟩ → exaP z (underP e.node) 16 (one e.text.size ++ e.text) = 1
  exS : exaP z serviceB 33 (q4 0 ++ wd e.port.toNat ++ underP e.node) = 1

theorem nodeR_count (e : Ev) (p : RI → Bool) : (nodeR e).countP p = (if p (madeR (underP e.node) (kindOf e) e.addr) then 1 else 0) + (if e.text = ⟨#[]⟩ then 0 else if p (madeR (underP e.node) 16 (one e.text.size ++ e.text)) then 1 else 0) := by
  have e0 : nodeR e = madeR (underP e.node) (kindOf e) e.addr :: (if e.text = ⟨#[]⟩ then [] else [madeR (underP e.node) 16 (one e.text.size ++ e.text)]) := rfl
  rw [e0, List.countP_cons]
  by_cases c : e.text = ⟨#[]⟩
  · rw [if_pos c, if_pos c, List.countP_nil]
    omega
  · rw [if_neg c, if_neg c, List.countP_cons, List.countP_nil]
    omega

theorem kind_of (e : Ev) : kindOf e = 1 ∨ kindOf e = 28 := by
  unfold kindOf
  split
  · exact .inr rfl
  · exact .inl rfl

theorem hav_one {L : List Ev} {e : Ev} (he : e ∈ upP L) (t : Int) (ht : t = 1 ∨ t = 28 ∨ t = 16 ∨ t = 5) : havP (recordsP L) (underP e.node) t = (if kindOf e = t then 1 else 0) + (if e.text = ⟨#[]⟩ then 0 else if (16 : Int) = t then 1 else 0) := by
  have h := count_one (own_hav (upP L) e.node t ht) he
  unfold havP
  rw [h, nodeR_count]
  have s : (decide ((srvR e).name = underP e.node ∧ (srvR e).ty = t)) = false := decide_eq_false fun q => by have : (33 : Int) = t := q.2; omega
  rw [s]
  have k1 : decide ((madeR (underP e.node) (kindOf e) e.addr).name = underP e.node ∧ (madeR (underP e.node) (kindOf e) e.addr).ty = t) = decide (kindOf e = t) := by
    rw [Bool.eq_iff_iff]
    simp [madeR]
  have k2 : decide ((madeR (underP e.node) 16 (one e.text.size ++ e.text)).name = underP e.node ∧ (madeR (underP e.node) 16 (one e.text.size ++ e.text)).ty = t) = decide ((16 : Int) = t) := by
    rw [Bool.eq_iff_iff]
    simp [madeR]
  rw [k1, k2]
  simp only [decide_eq_true_eq, Bool.false_eq_true, if_false, Nat.add_zero]

theorem has_up {L : List Ev} {e : Ev} (he : e ∈ upP L) : Has (recordsP L) e := by
  have hk := kind_of e
  refine ⟨?_, ?_, ?_, ?_, ?_, fun ht => ?_, ?_⟩
  · rw [hav_one he 1 (.inl rfl), hav_one he 28 (.inr (.inl rfl))]
    rcases hk with hk | hk <;> rw [hk] <;> simp
  · rw [hav_one he 16 (by omega), if_neg (by omega)]
    simp
  · rw [hav_one he 5 (by omega), if_neg (by omega)]
    simp
  · unfold offP
    rw [count_one (own_off (upP L) e.node) he, cnt_zero fun x hx => ?_]
    · have hd := srv_data e
      have : decide ((srvR e).ty = 33 ∧ 6 < (srvR e).data.size ∧ (srvR e).data.extract 6 (srvR e).data.size = underP e.node) = true := decide_eq_true ⟨rfl, by rw [hd.1, under_size]; omega, hd.2⟩
      rw [this]
      simp
    · exact decide_eq_false fun q => by have := (nodeR_name hx).2.1; omega
  · unfold exaP
    rw [count_one (own_exa (upP L) e.node (kindOf e) e.addr (by omega)) he, nodeR_count]
    have k1 : decide ((madeR (underP e.node) (kindOf e) e.addr).name = underP e.node ∧ (madeR (underP e.node) (kindOf e) e.addr).ty = kindOf e ∧ (madeR (underP e.node) (kindOf e) e.addr).data = e.addr ∧ (madeR (underP e.node) (kindOf e) e.addr).cl = 1 ∧ (madeR (underP e.node) (kindOf e) e.addr).ttl = 30) = true := decide_eq_true ⟨rfl, rfl, rfl, rfl, rfl⟩
    have k2 : decide ((madeR (underP e.node) 16 (one e.text.size ++ e.text)).name = underP e.node ∧ (madeR (underP e.node) 16 (one e.text.size ++ e.text)).ty = kindOf e ∧ (madeR (underP e.node) 16 (one e.text.size ++ e.text)).data = e.addr ∧ (madeR (underP e.node) 16 (one e.text.size ++ e.text)).cl = 1 ∧ (madeR (underP e.node) 16 (one e.text.size ++ e.text)).ttl = 30) = false := decide_eq_false fun q => by have : (16 : Int) = kindOf e := q.2.1; omega
    have k3 : decide ((srvR e).name = underP e.node ∧ (srvR e).ty = kindOf e ∧ (srvR e).data = e.addr ∧ (srvR e).cl = 1 ∧ (srvR e).ttl = 30) = false := decide_eq_false fun q => by have : (33 : Int) = kindOf e := q.2.1; omega
    rw [k1, k2, k3]
    simp
  · unfold exaP
    rw [count_one (own_exa (upP L) e.node 16 (one e.text.size ++ e.text) (by omega)) he, nodeR_count, if_neg ht]
    have k1 : decide ((madeR (underP e.node) (kindOf e) e.addr).name = underP e.node ∧ (madeR (underP e.node) (kindOf e) e.addr).ty = 16 ∧ (madeR (underP e.node) (kindOf e) e.addr).data = one e.text.size ++ e.text ∧ (madeR (underP e.node) (kindOf e) e.addr).cl = 1 ∧ (madeR (underP e.node) (kindOf e) e.addr).ttl = 30) = false := decide_eq_false fun q => by have : kindOf e = 16 := q.2.1; omega
    have k2 : decide ((madeR (underP e.node) 16 (one e.text.size ++ e.text)).name = underP e.node ∧ (madeR (underP e.node) 16 (one e.text.size ++ e.text)).ty = 16 ∧ (madeR (underP e.node) 16 (one e.text.size ++ e.text)).data = one e.text.size ++ e.text ∧ (madeR (underP e.node) 16 (one e.text.size ++ e.text)).cl = 1 ∧ (madeR (underP e.node) 16 (one e.text.size ++ e.text)).ttl = 30) = true := decide_eq_true ⟨rfl, rfl, rfl, rfl, rfl⟩
    have k3 : decide ((srvR e).name = underP e.node ∧ (srvR e).ty = 16 ∧ (srvR e).data = one e.text.size ++ e.text ∧ (srvR e).cl = 1 ∧ (srvR e).ttl = 30) = false := decide_eq_false fun q => absurd (show (33 : Int) = 16 from q.2.1) (by decide)
    rw [k1, k2, k3]
    simp
  · unfold exaP
    rw [count_one (own_svc (upP L) e.node (q4 0 ++ wd e.port.toNat) rfl) he, cnt_zero fun x hx => ?_]
    · have : decide ((srvR e).name = serviceB ∧ (srvR e).ty = 33 ∧ (srvR e).data = q4 0 ++ wd e.port.toNat ++ underP e.node ∧ (srvR e).cl = 1 ∧ (srvR e).ttl = 30) = true := decide_eq_true ⟨rfl, rfl, rfl, rfl, rfl⟩
      rw [this]
      simp
    · exact decide_eq_false fun q => by have := (nodeR_name hx).2.1; omega

/-- What the zone has of a node that is gone: nothing. -/
theorem has_none {L : List Ev} {node : ByteArray} (hn : ∀ u, u ∈ upP L → u.node ≠ node) : havP (recordsP L) (underP node) 1 = 0 ∧ havP (recordsP L) (underP node) 28 = 0 ∧ havP (recordsP L) (underP node) 16 = 0 ∧ offP (recordsP L) (underP node) = 0 := by
  have h : ∀ t : Int, t = 1 ∨ t = 28 ∨ t = 16 → havP (recordsP L) (underP node) t = 0 := fun t ht =>
    count_none (own_hav (upP L) node t (by omega)) (fun a => decide_eq_false fun q => by have : (5 : Int) = t := q.2; omega) hn
  exact ⟨h 1 (by omega), h 28 (by omega), h 16 (by omega), count_none (own_off (upP L) node) (fun a => decide_eq_false fun q => absurd (show (5 : Int) = 33 from q.1) (by decide)) hn⟩

end Go.Proofs.Ytdhobdmhnocbgaa

namespace Go.Proofs.Ytdhobdmhnocbgaa
open Go.RowKit Zr

set_option maxRecDepth 100000 in
set_option maxHeartbeats 4000000 in
theorem present_gone (z : List RI) (e : Ev) (a : Option Addr) (c N : Nat) (w : World) (hrow : RowAt w N a (rcI z)) (hN : N ≤ w.heap.size) (hl : z.length ≤ 134217728) (hzd : ∀ i (h : i < z.length), z[i].data.size ≤ 4294967296) (hn : e.node.size ≤ 15) (hk : e.kind = 2) (h0 : havP z (underP e.node) 1 = 0 ∧ havP z (underP e.node) 28 = 0 ∧ havP z (underP e.node) 16 = 0 ∧ offP z (underP e.node) = 0) :
    Calls Try.prog 36 #[.slice a z.length c, e.val] w fun r w' => r = .returned (.bool true) ∧ Below w.heap.size w w' := by
  obtain ⟨kd, nd, ic, ad, pt, tx, al⟩ := e
  simp only at hn hk h0
  subst hk
  unfold Ev.val
  simp only
  have hb0 : ∀ O, Below w.heap.size w (w.alloc O) := fun O => (Below.refl _ _).alloc (Nat.le_refl _) O
  have kh := fun W => host_k nd W (show nd.size < 256 by omega)
  have k1 := fun W (h : Below N w W) => having_k z (underP nd) 1 a c N W (hrow.below h) hl
  have k2 := fun W (h : Below N w W) => having_k z (underP nd) 28 a c N W (hrow.below h) hl
  have k3 := fun W (h : Below N w W) => having_k z (underP nd) 16 a c N W (hrow.below h) hl
  have k4 := fun W (h : Below N w W) => offering_k z (underP nd) a c N W (hrow.below h) hl hzd
  rw [h0.1] at k1
  rw [h0.2.1] at k2
  rw [h0.2.2.1] at k3
  rw [h0.2.2.2] at k4
  generalize underP nd = un at *
  have KH := hide kh
  have K1 := hide k1
  have K2 := hide k2
  have K3 := hide k3
  have K4 := hide k4
  have HB0 := hide hb0
  clear kh k1 k2 k3 k4 h0 hrow hzd hb0
  go_enter Try.func36, Try.ntmps36
  go_wp2_with fail
  refine (unhide KH _).mono ?_
  rintro e w1 ⟨rfl, b1⟩
  obtain ⟨hx1, hB1⟩ := alloc_box b1
  have HB1 := hide hB1
  have f0 := cell_of_blk hx1 0
  have f1 := cell_of_blk hx1 1
  have f2 := cell_of_blk hx1 2
  have f3 := cell_of_blk hx1 3
  have f4 := cell_of_blk hx1 4
  have f5 := cell_of_blk hx1 5
  have f6 := cell_of_blk hx1 6
  simp only [List.getElem?_toArray, List.getElem?_cons_zero, List.getElem?_cons_succ] at f0 f1 f2 f3 f4 f5 f6
  clear b1 hx1 hB1 KH
  go_wp2_with fail
  refine (unhide K1 _ ((unhide HB1).mono hN)).mono ?_
  rintro e w2 ⟨rfl, rfl⟩
  go_wp2_with fail
  refine (unhide K2 _ ((unhide HB1).mono hN)).mono ?_
  rintro e w2 ⟨rfl, rfl⟩
  go_wp2_with fail
  refine (unhide K3 _ ((unhide HB1).mono hN)).mono ?_
  rintro e w2 ⟨rfl, rfl⟩
  go_wp2_with fail
  refine (unhide K4 _ ((unhide HB1).mono hN)).mono ?_
  rintro e w2 ⟨rfl, rfl⟩
  go_wp2_with fail
  go_ret
  exact ⟨rfl, unhide HB1⟩

theorem six_owns (w : World) (n : Nat) (h : n < 65536) : (w.alloc (.cells #[.int .u8 0, .int .u8 0, .int .u8 0, .int .u8 0, .int .u8 ((n : Int) / 256), .int .u8 ((n : Int) % 256)] 5)).ownsRow w.heap.size 5 1 (.slice (some ⟨w.heap.size, 0, none⟩) 6 6) (q4 0 ++ wd n).size (byteCells (q4 0 ++ wd n)) := by
  refine ⟨rfl, .inr ⟨w.heap.size, 6, _, rfl, Nat.le_refl _, heap_alloc_new _ _, Nat.le_refl _, by decide, rfl, ?_⟩⟩
  have e : byteCells (q4 0 ++ wd n) = [.int .u8 0, .int .u8 0, .int .u8 0, .int .u8 0, .int .u8 (((UInt8.ofNat (n / 256)).toNat : Nat) : Int), .int .u8 (((UInt8.ofNat (n % 256)).toNat : Nat) : Int)] := rfl
  rw [e, UInt8.toNat_ofNat', UInt8.toNat_ofNat']
  show [_, _, _, _, _, _] = _
  congr 6
  · omega
  · congr 1; omega

set_option maxRecDepth 100000 in
set_option maxHeartbeats 4000000 in
theorem present_alive (z : List RI) (e : Ev) (a : Option Addr) (c N : Nat) (w : World) (hrow : RowAt w N a (rcI z)) (hN : N ≤ w.heap.size) (hl : z.length ≤ 134217728) (hzd : ∀ i (h : i < z.length), z[i].data.size ≤ 4294967296) (hn : e.node.size ≤ 15) (hk : e.kind = 1) (hp0 : 0 ≤ e.port) (hp1 : e.port ≤ 65535) (ht : e.text.size ≤ 60) (had : e.addr.size = 4 ∨ e.addr.size = 16) (hH : Has z e) :
    Calls Try.prog 36 #[.slice a z.length c, e.val] w fun r w' => r = .returned (.bool true) ∧ Below w.heap.size w w' := by
  obtain ⟨kd, nd, ic, ad, pt, tx, al⟩ := e
  obtain ⟨hA, hT, hC, hO, hEA, hET, hES⟩ := hH
  simp only at hn hk hp0 hp1 ht had hA hT hC hO hEA hET hES
  subst hk
  obtain ⟨pn, rfl⟩ := Int.eq_ofNat_of_zero_le hp0
  unfold Ev.val
  simp only
  have kh := fun W => host_k nd W (show nd.size < 256 by omega)
  have k1 := fun W (h : Below N w W) => having_k z (underP nd) 1 a c N W (hrow.below h) hl
  have k2 := fun W (h : Below N w W) => having_k z (underP nd) 28 a c N W (hrow.below h) hl
  have k3 := fun W (h : Below N w W) => having_k z (underP nd) 16 a c N W (hrow.below h) hl
  have k4 := fun W (h : Below N w W) => offering_k z (underP nd) a c N W (hrow.below h) hl hzd
  have k5 := fun W (h : Below N w W) => having_k z (underP nd) 5 a c N W (hrow.below h) hl
  have k6 := fun W (h : Below N w W) => exactly_k z (underP nd) (kindOf ⟨1, nd, ic, ad, pn, tx, al⟩) ad a c N W (hrow.below h) hl
  have k7 := fun W (h : Below N w W) => exactly_k z serviceB 33 (q4 0 ++ wd pn ++ underP nd) a c N W (hrow.below h) hl
  have k8 := fun W (h : Below N w W) => exactly_k z (underP nd) 16 (one tx.size ++ tx) a c N W (hrow.below h) hl
  rw [hC] at k5
  rw [hO] at k4
  simp only [Int.toNat_natCast] at hES
  rw [decide_eq_true hEA] at k6
  rw [decide_eq_true hES] at k7
  have hun := under_size nd
  have ex8 : tx ≠ ⟨#[]⟩ → decide (exaP z (underP nd) 16 (one tx.size ++ tx) = 1) = true := fun h => decide_eq_true (hET h)
  generalize underP nd = un at *
  generalize havP z un 1 = n1 at *
  generalize havP z un 28 = n28 at *
  generalize havP z un 16 = n16 at *
  have KH := hide kh
  have K1 := hide k1
  have K2 := hide k2
  have K3 := hide k3
  have K4 := hide k4
  have K5 := hide k5
  have K6 := hide k6
  have K7 := hide k7
  have K8 := hide k8
  have EX8 := hide ex8
  have HT := hide hT
  have hn1 : n1 ≤ 1 := by omega
  have hn28 : n28 ≤ 1 := by omega
  have HA := hide hA
  clear kh k1 k2 k3 k4 k5 k6 k7 k8 hrow hzd ex8 hT hC hO hEA hET hES hA hp0
  go_enter Try.func36, Try.ntmps36
  go_wp2_with fail
  refine (unhide KH _).mono ?_
  rintro e w1 ⟨rfl, b1⟩
  obtain ⟨hx1, hB1⟩ := alloc_box b1
  have HX1 := hide hx1
  have HB1 := hide hB1
  have hlt := blk_lt hx1
  have f0 := cell_of_blk hx1 0
  have f1 := cell_of_blk hx1 1
  have f2 := cell_of_blk hx1 2
  have f3 := cell_of_blk hx1 3
  have f4 := cell_of_blk hx1 4
  have f5 := cell_of_blk hx1 5
  have f6 := cell_of_blk hx1 6
  simp only [List.getElem?_toArray, List.getElem?_cons_zero, List.getElem?_cons_succ] at f0 f1 f2 f3 f4 f5 f6
  clear b1 hx1 hB1 KH
  go_wp2_with fail
  refine (unhide K1 _ ((unhide HB1).mono hN)).mono ?_
  rintro e w2 ⟨rfl, rfl⟩
  go_wp2_with fail
  refine (unhide K2 _ ((unhide HB1).mono hN)).mono ?_
  rintro e w2 ⟨rfl, rfl⟩
  go_wp2_with fail
  refine (unhide K3 _ ((unhide HB1).mono hN)).mono ?_
  rintro e w2 ⟨rfl, rfl⟩
  go_wp2_with fail
  refine (unhide K4 _ ((unhide HB1).mono hN)).mono ?_
  rintro e w2 ⟨rfl, rfl⟩
  obtain ⟨ty, hty⟩ : ∃ ty, kindOf ⟨1, nd, ic, ad, (pn : Int), tx, al⟩ = ty := ⟨_, rfl⟩
  rw [hty] at K6
  unfold kindOf at hty
  simp only at hty
  have hcase : (((ad.size : Int) == 16) = true ∧ ty = 28) ∨ (((ad.size : Int) == 16) = false ∧ ty = 1) := by
    rcases had with q | q
    · exact .inr ⟨beq_eq_false_iff_ne.2 (by omega), by rw [← hty, if_neg (by omega)]⟩
    · exact .inl ⟨by rw [beq_iff_eq]; omega, by rw [← hty, if_pos q]⟩
  clear hty had
  rcases hcase with ⟨d16, rfl⟩ | ⟨d16, rfl⟩
  all_goals
    go_wp2_with fail
    refine (unhide K6 _ ((unhide HB1).mono hN)).mono ?_
    rintro e w2 ⟨rfl, rfl⟩
    go_wp2_with fail
    rw [run_bytes_row _ 105 9 5 Try.underlying105 Try.underlying5 Try.underlying9 w2.heap.size _ (q4 0 ++ wd pn) (six_owns w2 pn (by omega))]
    have hz6 : (q4 0 ++ wd pn).size = 6 := rfl
    generalize q4 0 ++ wd pn = d6 at *
    have hB3 : Below w.heap.size w (w2.alloc (.cells #[.int .u8 0, .int .u8 0, .int .u8 0, .int .u8 0, .int .u8 ((pn : Int) / 256), .int .u8 ((pn : Int) % 256)] 5)) := (unhide HB1).trans (((Below.refl w2.heap.size w2).alloc (Nat.le_refl _) _).mono (unhide HB1).size)
    have hx3 : (w2.alloc (.cells #[.int .u8 0, .int .u8 0, .int .u8 0, .int .u8 0, .int .u8 ((pn : Int) / 256), .int .u8 ((pn : Int) % 256)] 5)).heap[w.heap.size]? = _ := (heap_alloc_old w2 _ hlt).trans (unhide HX1)
    have HB3 := hide hB3
    have g5 := cell_of_blk hx3 5
    simp only [List.getElem?_toArray, List.getElem?_cons_zero, List.getElem?_cons_succ] at g5
    have hlt3 := blk_lt hx3
    clear f0 f1 f2 f3 f4 f5 f6 hB3 hx3
    go_wp2_with fail
    generalize w2.alloc (.cells #[.int .u8 0, .int .u8 0, .int .u8 0, .int .u8 0, .int .u8 ((pn : Int) / 256), .int .u8 ((pn : Int) % 256)] 5) = w3 at *
    refine (unhide K7 _ ((unhide HB3).mono hN)).mono ?_
    rintro e w4 ⟨rfl, rfl⟩
    go_wp2_with fail
    refine (unhide K5 _ ((unhide HB3).mono hN)).mono ?_
    rintro e w4 ⟨rfl, rfl⟩
    have hsum : ((n1 : Int) + n28 == 1) = true := by rw [beq_iff_eq]; have := unhide HA; omega
    by_cases ct : tx = ⟨#[]⟩
    · have e0 : tx.toList.isEmpty = true := (empty_iff tx).2 ct
      have h16 := unhide HT
      rw [if_pos ct] at h16
      subst h16
      clear ct
      go_wp2_with fail
      go_ret
      exact ⟨rfl, unhide HB3⟩
    · have e0 : tx.toList.isEmpty = false := by
        cases e : tx.toList.isEmpty with
        | false => rfl
        | true => exact absurd ((empty_iff tx).1 e) ct
      have h16 := unhide HT
      rw [if_neg ct] at h16
      subst h16
      have h8 := unhide EX8 ct
      rw [h8] at K8
      have HO := hide (one_owns w4 tx.size (by omega))
      have ho1 : (one tx.size).size = 1 := rfl
      generalize one tx.size = ot at *
      clear ct h8
      go_wp2_with fail
      rw [run_bytes_row _ 105 9 5 Try.underlying105 Try.underlying5 Try.underlying9 w4.heap.size _ ot (unhide HO)]
      have hB5 : Below w.heap.size w (w4.alloc (.cells #[.int .u8 (tx.size : Int)] 5)) := (unhide HB3).trans (((Below.refl w4.heap.size w4).alloc (Nat.le_refl _) _).mono (unhide HB3).size)
      have HB5 := hide hB5
      have g6 := (heap_alloc_cell w4 (.cells #[.int .u8 (tx.size : Int)] 5) hlt3 5).trans g5
      clear hB5
      go_wp2_with fail
      refine (unhide K8 _ ((unhide HB5).mono hN)).mono ?_
      rintro e w6 ⟨rfl, rfl⟩
      go_wp2_with fail
      go_ret
      exact ⟨rfl, unhide HB5⟩

end Go.Proofs.Ytdhobdmhnocbgaa

namespace Go.Proofs.Ytdhobdmhnocbgaa
open Go.RowKit Zr

instance (c : Nat) : Decidable (labC c) := by unfold labC; exact inferInstance

def lettersB : ByteArray := ⟨#[97, 98, 99, 100, 101, 102, 103, 104, 105, 106, 107, 108, 109, 110, 111, 112, 113, 114, 115, 116, 117, 118, 119, 120, 121, 122, 48, 49, 50, 51, 52, 53, 54, 55, 56, 57, 45]⟩

theorem letters_at : ∀ k : Fin 37, labC (bt lettersB k.val) := by decide
theorem letter_one (k : Nat) (h : k < 37) : (lettersB.extract k (k + 1)).size = 1 ∧ labC (bt (lettersB.extract k (k + 1)) 0) := by
  have hz : lettersB.size = 37 := rfl
  refine ⟨by rw [size_extract' _ _ _ (by omega) (by omega)]; omega, ?_⟩
  rw [bt_ex _ _ _ _ (by omega) (by omega), Nat.add_zero]
  exact letters_at ⟨k, h⟩

/-- Letters so far. -/
def Lets (s : ByteArray) : Prop := ∀ i, i < s.size → labC (bt s i)
theorem lets_more {s : ByteArray} (h : Lets s) {k : Nat} (hk : k < 37) : Lets (s ++ lettersB.extract k (k + 1)) := by
  obtain ⟨h1, h2⟩ := letter_one k hk
  intro i hi
  rw [ByteArray.size_append, h1] at hi
  rw [bt_append]
  by_cases c : i < s.size
  · rw [if_pos c]; exact h i c
  · rw [if_neg c, show i - s.size = 0 by omega]; exact h2

/-- A list that stays where only the rolls turn. -/
def RowK (N : Nat) (w : World) (al : Option Addr) (l : List Ev) : Prop := ∃ M, ∀ W, RFrame N w W → RowAt W M al (evC l)
theorem RowK.call {N : Nat} {w w1 : World} {al : Option Addr} {l : List Ev} (h : RowK N w al l) (hf : RFrame N w w1) : RowK N w1 al l := by
  obtain ⟨M, h⟩ := h
  exact ⟨M, fun W hW => h W (hf.trans hW)⟩
theorem rowK_low {N : Nat} {w : World} {al : Option Addr} {l : List Ev} (h : RowAt w N al (evC l)) (hN : N ≤ w.heap.size) : RowK N w al l := ⟨N, fun _ hW => h.below (hW.below hN)⟩
theorem rowK_own {N N' : Nat} {w : World} {al : Option Addr} {n c : Nat} {l : List Ev} (h : w.ownsRow N' 63 7 (.slice al n c) n (evC l)) : RowK N w al l := by
  cases al with
  | none =>
    refine ⟨0, fun W hW hx => absurd ?_ hx⟩
    rcases h.2 with ⟨_, h0⟩ | ⟨g, cap, cur, h0, _⟩
    · have := h.1
      rw [h0] at this
      exact List.eq_nil_of_length_eq_zero (by omega)
    · cases h0
  | some ad =>
    rcases h.2 with ⟨h0, _⟩ | ⟨g, cap, cur, h0, _⟩
    · cases h0
    · cases h0
      refine ⟨g + 1, fun W hW hx => ⟨g, 0, rfl, Nat.lt_succ_self _, fun j u hu => ?_⟩⟩
      have e := (hW.owns h (by decide) (by decide) (by decide)).cells (g := g) rfl j u hu
      rw [Addr.add_lit] at e
      exact e

def NodeOf (e : Ending) : Prop := ∃ s, e = .returned (.string s) ∧ labelOk s

set_option maxRecDepth 100000 in
set_option maxHeartbeats 4000000 in
theorem node_k (N R : Nat) (a : Option Addr) (n c : Nat) (K : List ByteArray) (l : List Ev) (al : Option Addr) (cl : Nat) (w : World) (h : Ro w N R a n c K) (hrow : RowK N w al l) (hl : l.length ≤ 16777216) (hz : EvSized l) :
    Calls Try.prog 31 #[.pointer (some ⟨R, 0, none⟩), .slice al l.length cl] w fun e w' => NodeOf e ∧ Ro w' N R a n c K ∧ RFrame N w w' := by
  have hlt := h.lt
  have k1 := next_any N R a n c K (l.length + 1) ((l.length : Int) + 1) w h (by omega) (by omega) (by omega)
  have k2 := fun W (h : Ro W N R a n c K) => next_any N R a n c K 15 15 W h (by omega) (by omega) rfl
  have k3 := fun W (h : Ro W N R a n c K) => next_any N R a n c K 37 37 W h (by omega) (by omega) rfl
  have H := hide h
  have HRow := hide hrow
  have HZ := hide hz
  have K1 := hide k1
  have K2 := hide k2
  have K3 := hide k3
  clear k1 k2 k3 h hrow hz
  go_enter Try.func31, Try.ntmps31
  go_wp2_with fail
  refine (unhide K1).mono ?_
  rintro e w1 ⟨⟨old, hold, rfl⟩, hR1, hg1⟩
  have HF1 := hide ((unhide H).next hg1)
  have HR1 := hide hR1
  obtain ⟨M1, hM1⟩ := unhide HRow
  have HRow1 := hide (hM1 _ ((unhide H).next hg1))
  clear hM1
  clear hR1 hg1 K1 H HRow
  have hcase : (∃ o1, old = o1 + 1 ∧ o1 < l.length) ∨ old = 0 := by
    rcases Nat.eq_zero_or_pos old with q | q
    · exact .inr q
    · exact .inl ⟨old - 1, by omega, by omega⟩
  rcases hcase with ⟨o1, rfl, hol⟩ | rfl
  · obtain ⟨b, o, rfl, hb, x0, x1, x2, x3, x4, x5, x6⟩ := row_e (unhide HRow1) o1 hol
    have hs1 := (unhide HZ o1 hol).1
    have key := fun W => isNode_k l[o1].node W (by omega)
    have Key := hide key
    generalize l[o1].node = nd at *
    have d0 : decide ((0 : Int) < (o1 : Int) + 1) = true := decide_eq_true (by omega)
    have d1 : (o1 : Int) < (l.length : Int) := by omega
    clear key
    go_wp2_with fail
    refine (unhide Key _).mono ?_
    rintro e w2 ⟨⟨bb, rfl, hbb⟩, rfl⟩
    have HBB := hide hbb
    clear hbb
    cases bb with
    | true =>
      go_wp2_with fail
      go_ret
      exact ⟨⟨nd, rfl, (unhide HBB).1 (by simp)⟩, unhide HR1, unhide HF1⟩
    | false =>
      go_wp2_with fail
      refine (unhide K2 _ (unhide HR1)).mono ?_
      rintro e w2 ⟨⟨nn, hnn, rfl⟩, hR2, hg2⟩
      have HF2 := hide ((unhide HF1).trans ((unhide HR1).next hg2))
      have HR2 := hide hR2
      clear hR2 hg2 K2 HR1 HF1
      go_wp2_with fail
      go_loopg [6, 8] (nn + 2) (fun g vs vi w' => ∃ (j : Nat) (s : ByteArray), vi = .int .i64 j ∧ j ≤ nn + 1 ∧ g = nn + 2 - j ∧ vs = .string s ∧ s.size = j ∧ Hid (Lets s) ∧ Hid (Ro w' N R a n c K) ∧ Hid (RFrame N w w'))
      case atStart => exact ⟨0, ⟨#[]⟩, rfl, Nat.zero_le _, rfl, rfl, rfl, hide (fun i hi => absurd hi (Nat.not_lt_zero i)), HR2, HF2⟩
      case round =>
        clear HR2 HF2
        obtain ⟨j, s, rfl, hj, rfl, rfl, hsj, HL, HR, HF⟩ := hrel
        by_cases cj : j < nn + 1
        · go_wp2_with fail
          refine (unhide K3 _ (unhide HR)).mono ?_
          rintro e w3 ⟨⟨q, hq, rfl⟩, hR3, hg3⟩
          have HF3 := hide ((unhide HF).trans ((unhide HR).next hg3))
          have HR3 := hide hR3
          have HL3 := hide (lets_more (unhide HL) hq)
          have hz3 : (s ++ lettersB.extract q (q + 1)).size = j + 1 := by rw [ByteArray.size_append, (letter_one q hq).1, hsj]
          have HZ3 := hide hz3
          clear hR3 hg3 HR HF HL hz3
          have hss : s.size ≤ 15 := by omega
          have HSJ := hide hsj
          clear hsj
          go_wp2_with fail
          go_roundg (nn + 2 - (j + 1))
          case measure => omega
          case rel => exact ⟨j + 1, s ++ lettersB.extract q (q + 1), by go_num, by omega, rfl, rfl, unhide HZ3, HL3, HR3, HF3⟩
        · have ej : j = nn + 1 := by omega
          go_wp2_with fail
          go_ret
          refine ⟨⟨s, rfl, unhide HL, by omega, by omega⟩, unhide HR, unhide HF⟩
  · skip
    · skip
      have d0 : decide ((0 : Int) < 0) = false := by decide
      go_wp2_with fail
      refine (unhide K2 _ (unhide HR1)).mono ?_
      rintro e w2 ⟨⟨nn, hnn, rfl⟩, hR2, hg2⟩
      have HF2 := hide ((unhide HF1).trans ((unhide HR1).next hg2))
      have HR2 := hide hR2
      clear hR2 hg2 K2 HR1 HF1
      go_wp2_with fail
      go_loopg [6, 8] (nn + 2) (fun g vs vi w' => ∃ (j : Nat) (s : ByteArray), vi = .int .i64 j ∧ j ≤ nn + 1 ∧ g = nn + 2 - j ∧ vs = .string s ∧ s.size = j ∧ Hid (Lets s) ∧ Hid (Ro w' N R a n c K) ∧ Hid (RFrame N w w'))
      case atStart => exact ⟨0, ⟨#[]⟩, rfl, Nat.zero_le _, rfl, rfl, rfl, hide (fun i hi => absurd hi (Nat.not_lt_zero i)), HR2, HF2⟩
      case round =>
        clear HR2 HF2
        obtain ⟨j, s, rfl, hj, rfl, rfl, hsj, HL, HR, HF⟩ := hrel
        by_cases cj : j < nn + 1
        · go_wp2_with fail
          refine (unhide K3 _ (unhide HR)).mono ?_
          rintro e w3 ⟨⟨q, hq, rfl⟩, hR3, hg3⟩
          have HF3 := hide ((unhide HF).trans ((unhide HR).next hg3))
          have HR3 := hide hR3
          have HL3 := hide (lets_more (unhide HL) hq)
          have hz3 : (s ++ lettersB.extract q (q + 1)).size = j + 1 := by rw [ByteArray.size_append, (letter_one q hq).1, hsj]
          have HZ3 := hide hz3
          clear hR3 hg3 HR HF HL hz3
          have hss : s.size ≤ 15 := by omega
          have HSJ := hide hsj
          clear hsj
          go_wp2_with fail
          go_roundg (nn + 2 - (j + 1))
          case measure => omega
          case rel => exact ⟨j + 1, s ++ lettersB.extract q (q + 1), by go_num, by omega, rfl, rfl, unhide HZ3, HL3, HR3, HF3⟩
        · have ej : j = nn + 1 := by omega
          go_wp2_with fail
          go_ret
          refine ⟨⟨s, rfl, unhide HL, by omega, by omega⟩, unhide HR, unhide HF⟩

end Go.Proofs.Ytdhobdmhnocbgaa

namespace Go.Proofs.Ytdhobdmhnocbgaa
open Go.RowKit Zr

/-- News of a node that is alive. -/
def AliveOf (nd : ByteArray) (ic : Int) (e : Ending) : Prop := ∃ x : Ev, e = .returned x.val ∧ x.kind = 1 ∧ x.node = nd ∧ x.inc = ic ∧ aliveOk x

theorem cells7 {w : World} {k : Nat} {a b c d e f g : Value} {t : TypeId} (h : w.heap[k]? = some (.cells #[a, b, c, d, e, f, g] t (0, 0))) :
    (w.cell? ⟨k, 0, none⟩ = some a ∧ w.cell? ⟨k, 1, none⟩ = some b ∧ w.cell? ⟨k, 2, none⟩ = some c ∧ w.cell? ⟨k, 3, none⟩ = some d ∧ w.cell? ⟨k, 4, none⟩ = some e ∧ w.cell? ⟨k, 5, none⟩ = some f ∧ w.cell? ⟨k, 6, none⟩ = some g) ∧
    w.frozen? ⟨k, 0, none⟩ = false ∧ w.frozen? ⟨k, 1, none⟩ = false ∧ w.frozen? ⟨k, 2, none⟩ = false ∧ w.frozen? ⟨k, 3, none⟩ = false ∧ w.frozen? ⟨k, 4, none⟩ = false ∧ w.frozen? ⟨k, 5, none⟩ = false ∧ w.frozen? ⟨k, 6, none⟩ = false := by
  refine ⟨⟨?_, ?_, ?_, ?_, ?_, ?_, ?_⟩, frozen_of_blk h _, frozen_of_blk h _, frozen_of_blk h _, frozen_of_blk h _, frozen_of_blk h _, frozen_of_blk h _, frozen_of_blk h _⟩ <;> (rw [cell_of_blk h]; rfl)

theorem store7 {w : World} {k : Nat} {a b c d e f g : Value} {t : TypeId} (h : w.heap[k]? = some (.cells #[a, b, c, d, e, f, g] t (0, 0))) (x0 x1 x2 x3 x4 x5 x6 : Value) :
    (((((((w.setCell ⟨k, 0, none⟩ x0).setCell ⟨k, 1, none⟩ x1).setCell ⟨k, 2, none⟩ x2).setCell ⟨k, 3, none⟩ x3).setCell ⟨k, 4, none⟩ x4).setCell ⟨k, 5, none⟩ x5).setCell ⟨k, 6, none⟩ x6).heap[k]? = some (.cells #[x0, x1, x2, x3, x4, x5, x6] t (0, 0)) := by
  rw [blk_set (blk_set (blk_set (blk_set (blk_set (blk_set (blk_set h _ _) _ _) _ _) _ _) _ _) _ _) _ _]; rfl

/-- Where news are being made: their block behind the result's, the rolls, what was there before. -/
structure EAt (w0 : World) (N R : Nat) (a : Option Addr) (n c : Nat) (K : List ByteArray) (P : Nat) (ps cs : Array Value) (w : World) : Prop where
  ro : Ro w N R a n c K
  pa : w.heap[P]? = some (.cells ps 63 (0, 0))
  xa : w.heap[P + 1]? = some (.cells cs 63 (0, 0))
  fr : RFrame N w0 w
  old : w0.heap.size ≤ P
  low : N ≤ P

theorem EAt.call {w0 w w1 : World} {N R : Nat} {a : Option Addr} {n c : Nat} {K K' : List ByteArray} {P : Nat} {ps cs : Array Value} (h : EAt w0 N R a n c K P ps cs w) (hr : Ro w1 N R a n c K') (hf : RFrame N w w1) : EAt w0 N R a n c K' P ps cs w1 :=
  ⟨hr, hf.kind _ _ _ _ h.pa (by decide) (by decide) (by decide), hf.kind _ _ _ _ h.xa (by decide) (by decide) (by decide), h.fr.trans hf, h.old, h.low⟩
theorem EAt.set {w0 w : World} {N R : Nat} {a : Option Addr} {n c : Nat} {K : List ByteArray} {P : Nat} {ps cs : Array Value} (h : EAt w0 N R a n c K P ps cs w) (o : Nat) (v : Value) : EAt w0 N R a n c K P ps (cs.setIfInBounds o v) (w.setCell ⟨P + 1, o, none⟩ v) :=
  ⟨h.ro.set h.xa (by decide) (by decide) (by have := h.low; omega) o v, (blk_set_other (by omega) _ _).trans h.pa, blk_set h.xa o v, h.fr.set (by have := h.old; omega) o v, h.old, h.low⟩
theorem EAt.setP {w0 w : World} {N R : Nat} {a : Option Addr} {n c : Nat} {K : List ByteArray} {P : Nat} {ps cs : Array Value} (h : EAt w0 N R a n c K P ps cs w) (o : Nat) (v : Value) : EAt w0 N R a n c K P (ps.setIfInBounds o v) cs (w.setCell ⟨P, o, none⟩ v) :=
  ⟨h.ro.set h.pa (by decide) (by decide) h.low o v, blk_set h.pa o v, (blk_set_other (by omega) _ _).trans h.xa, h.fr.set h.old o v, h.old, h.low⟩

theorem e_start {w : World} {N R : Nat} {a : Option Addr} {n c : Nat} {K : List ByteArray} (h : Ro w N R a n c K) (A B : Array Value) : EAt w N R a n c K w.heap.size A B ((w.alloc (.cells A 63)).alloc (.cells B 63)) := by
  have hl := h.lt
  have hA := (Below.refl w.heap.size w).alloc (Nat.le_refl _) (.cells A 63)
  have hB := hA.alloc (by simp) (.cells B 63)
  exact ⟨h.below hB, (two_new w _ _).1, (two_new w _ _).2, RFrame.of_below hB, Nat.le_refl _, by omega⟩

def Sz4 (m : Nat) : Prop := m = 4 ∨ m = 16

set_option maxRecDepth 100000 in
set_option maxHeartbeats 16000000 in
theorem alive_k (N R : Nat) (a : Option Addr) (n c : Nat) (K : List ByteArray) (l : List Ev) (al : Option Addr) (cl : Nat) (nd : ByteArray) (ic : Int) (w : World) (h : Ro w N R a n c K) (hrow : RowK N w al l) (hl : l.length ≤ 16777216) (hz : EvSized l) :
    Calls Try.prog 33 #[.pointer (some ⟨R, 0, none⟩), .slice al l.length cl, .string nd, .int .i64 ic] w fun e w' => AliveOf nd ic e ∧ Ro w' N R a n c K ∧ RFrame N w w' := by
  have hlt := h.lt
  have keyN := fun W (h : Ro W N R a n c K) (m : Nat) (v : Int) (h1 : 0 < m) (h2 : m ≤ 4294967296) (hv : v = m) => next_any N R a n c K m v W h h1 (by omega) hv
  have keyB := fun W (h : Ro W N R a n c K) (m : Nat) (v : Int) (h2 : m ≤ 100000) (hv : v = m) => bytes_any N R a n c K m v W h h2 hv
  have keyO := fun W (h : Ro W N R a n c K) (hrow : RowK N W al l) => node_k N R a n c K l al cl W h hrow hl hz
  have KN := hide keyN
  have KB := hide keyB
  have KO := hide keyO
  have HRow := hide hrow
  have A0 := e_start h #[.int .i64 0, .string ⟨#[]⟩, .int .i64 0, .string ⟨#[]⟩, .int .i64 0, .string ⟨#[]⟩, .string ⟨#[]⟩] #[.int .i64 1, .string nd, .int .i64 ic, .string ⟨#[]⟩, .int .i64 0, .string ⟨#[]⟩, .string ⟨#[]⟩]
  have hlow : N ≤ w.heap.size := by omega
  clear keyN keyB keyO h hrow hz hlt
  generalize hP : w.heap.size = P at *
  go_enter Try.func33, Try.ntmps33
  go_wp2_with fail
  generalize (w.alloc (.cells #[.int .i64 0, .string ⟨#[]⟩, .int .i64 0, .string ⟨#[]⟩, .int .i64 0, .string ⟨#[]⟩, .string ⟨#[]⟩] 63)).alloc (.cells #[.int .i64 1, .string nd, .int .i64 ic, .string ⟨#[]⟩, .int .i64 0, .string ⟨#[]⟩, .string ⟨#[]⟩] 63) = w0 at *
  refine (unhide KN _ A0.ro 2 2 (by omega) (by omega) rfl).mono ?_
  rintro e w1 ⟨⟨six, hsix, rfl⟩, hR1, hg1⟩
  have A1 := A0.call hR1 (A0.ro.next hg1)
  clear hR1 hg1 A0
  rcases (show six = 1 ∨ six = 0 by omega) with rfl | rfl
  have kb := unhide KB _ A1.ro 16 16 (by omega) rfl
  have hm : Sz4 16 := .inr rfl
  generalize (16 : Nat) = sz at hm kb
  have KB1 := hide kb
  clear kb
  rotate_left
  have kb := unhide KB _ A1.ro 4 4 (by omega) rfl
  have hm : Sz4 4 := .inl rfl
  generalize (4 : Nat) = sz at hm kb
  have KB1 := hide kb
  clear kb
  rotate_left
  all_goals
    have HM := hide hm
    clear hm
    go_wp2_with fail
    refine (unhide KB1).mono ?_
    rintro e w2 ⟨⟨ad, had', rfl⟩, hR2, hf2⟩
    have Had : Hid (ad.size = 4 ∨ ad.size = 16) := hide (by rw [had']; exact unhide HM)
    have B2 := A1.call hR2 hf2
    have A2 := B2.set 3 (.string ad)
    obtain ⟨⟨x0, x1, x2, x3, x4, x5, x6⟩, y0, y1, y2, y3, y4, y5, y6⟩ := cells7 B2.xa
    have l1 := blk_lt B2.xa
    clear hR2 hf2 B2 A1 had' hsix HM KB1
    go_wp2_with fail
    clear x0 x1 x2 x3 x4 x5 x6 y0 y1 y2 y3 y4 y5 y6 l1
    generalize w2.setCell ⟨P + 1, 3, none⟩ (.string ad) = w3 at *
    refine (unhide KN _ A2.ro 65536 65536 (by omega) (by omega) rfl).mono ?_
    rintro e w4 ⟨⟨pt, hpt, rfl⟩, hR2, hg2⟩
    have B2 := A2.call hR2 (A2.ro.next hg2)
    have A3 := B2.set 4 (.int .i64 (pt : Nat))
    obtain ⟨⟨x0, x1, x2, x3, x4, x5, x6⟩, y0, y1, y2, y3, y4, y5, y6⟩ := cells7 (show w4.heap[P + 1]? = some (.cells #[.int .i64 1, .string nd, .int .i64 ic, .string ad, .int .i64 0, .string ⟨#[]⟩, .string ⟨#[]⟩] 63 (0, 0)) from B2.xa)
    have l1 := blk_lt B2.xa
    clear hR2 hg2 B2 A2
    go_wp2_with fail
    clear x0 x1 x2 x3 x4 x5 x6 y0 y1 y2 y3 y4 y5 y6 l1
    generalize w4.setCell ⟨P + 1, 4, none⟩ (.int .i64 (pt : Nat)) = w5 at *
    refine (unhide KN _ A3.ro 61 61 (by omega) (by omega) rfl).mono ?_
    rintro e w6 ⟨⟨tn, htn, rfl⟩, hR2, hg2⟩
    have A4 := A3.call hR2 (A3.ro.next hg2)
    clear hR2 hg2 A3
    go_wp2_with fail
    refine (unhide KB _ A4.ro tn _ (by omega) rfl).mono ?_
    rintro e w7 ⟨⟨tx, htx', rfl⟩, hR2, hf2⟩
    have Htx : Hid (tx.size ≤ 60) := hide (by omega)
    have B2 := A4.call hR2 hf2
    have A5 := B2.set 5 (.string tx)
    obtain ⟨⟨x0, x1, x2, x3, x4, x5, x6⟩, y0, y1, y2, y3, y4, y5, y6⟩ := cells7 (show w7.heap[P + 1]? = some (.cells #[.int .i64 1, .string nd, .int .i64 ic, .string ad, .int .i64 (pt : Nat), .string ⟨#[]⟩, .string ⟨#[]⟩] 63 (0, 0)) from B2.xa)
    have l1 := blk_lt B2.xa
    clear hR2 hf2 B2 A4 htx'
    go_wp2_with fail
    clear x0 x1 x2 x3 x4 x5 x6 y0 y1 y2 y3 y4 y5 y6 l1
    generalize w7.setCell ⟨P + 1, 5, none⟩ (.string tx) = w8 at *
    refine (unhide KN _ A5.ro 2 2 (by omega) (by omega) rfl).mono ?_
    rintro e w9 ⟨⟨has, hhas, rfl⟩, hR2, hg2⟩
    have A6 := A5.call hR2 (A5.ro.next hg2)
    have xa6 : w9.heap[P + 1]? = some (.cells #[.int .i64 1, .string nd, .int .i64 ic, .string ad, .int .i64 (pt : Nat), .string tx, .string ⟨#[]⟩] 63 (0, 0)) := A6.xa
    clear hR2 hg2 A5
    rcases (show has = 1 ∨ has = 0 by omega) with rfl | rfl
    · clear hhas
      go_wp2_with fail
      refine (unhide KO _ A6.ro ((unhide HRow).call A6.fr)).mono ?_
      rintro e w10 ⟨⟨az, rfl, haz⟩, hR2, hf2⟩
      have Has : Hid (az = ⟨#[]⟩ ∨ labelOk az) := hide (.inr haz)
      have B2 := A6.call hR2 hf2
      have A7 := B2.set 6 (.string az)
      have xb := hf2.kind _ _ _ _ xa6 (by decide) (by decide) (by decide)
      obtain ⟨⟨x0, x1, x2, x3, x4, x5, x6⟩, y0, y1, y2, y3, y4, y5, y6⟩ := cells7 xb
      have l1 := blk_lt B2.xa
      have xa7 : (w10.setCell ⟨P + 1, 6, none⟩ (.string az)).heap[P + 1]? = some (.cells #[.int .i64 1, .string nd, .int .i64 ic, .string ad, .int .i64 (pt : Nat), .string tx, .string az] 63 (0, 0)) := by rw [blk_set xb]; rfl
      obtain ⟨⟨u0, u1, u2, u3, u4, u5, u6⟩, v0, v1, v2, v3, v4, v5, v6⟩ := cells7 xa7
      obtain ⟨⟨q0, q1, q2, q3, q4, q5, q6⟩, o0, o1, o2, o3, o4, o5, o6⟩ := cells7 A7.pa
      have l2 := blk_lt B2.pa
      clear hR2 hf2 B2 A6 haz xb xa6 xa7
      go_wp2_with fail
      obtain ⟨⟨g0, g1, g2, g3, g4, g5, g6⟩, _⟩ := cells7 (store7 A7.pa (.int .i64 1) (.string nd) (.int .i64 ic) (.string ad) (.int .i64 (pt : Nat)) (.string tx) (.string az))
      have A8 := ((((((A7.setP 0 (.int .i64 1)).setP 1 (.string nd)).setP 2 (.int .i64 ic)).setP 3 (.string ad)).setP 4 (.int .i64 (pt : Nat))).setP 5 (.string tx)).setP 6 (.string az)
      refine bodyPost_ret (v := .agg #[.int .i64 1, .string nd, .int .i64 ic, .string ad, .int .i64 (pt : Nat), .string tx, .string az]) (by simp [results, Try.results33, go_sem, g0, g1, g2, g3, g4, g5, g6]) rfl ?_
      exact ⟨⟨⟨1, nd, ic, ad, pt, tx, az⟩, rfl, rfl, rfl, rfl, unhide Has, unhide Had, by show (0 : Int) ≤ (pt : Int); omega, by show (pt : Int) ≤ 65535; omega, unhide Htx⟩, A8.ro, A8.fr⟩
    · clear hhas
      obtain ⟨⟨u0, u1, u2, u3, u4, u5, u6⟩, v0, v1, v2, v3, v4, v5, v6⟩ := cells7 xa6
      obtain ⟨⟨q0, q1, q2, q3, q4, q5, q6⟩, o0, o1, o2, o3, o4, o5, o6⟩ := cells7 A6.pa
      have l1 := blk_lt A6.xa
      have l2 := blk_lt A6.pa
      clear xa6
      go_wp2_with fail
      obtain ⟨⟨g0, g1, g2, g3, g4, g5, g6⟩, _⟩ := cells7 (store7 A6.pa (.int .i64 1) (.string nd) (.int .i64 ic) (.string ad) (.int .i64 (pt : Nat)) (.string tx) (.string ⟨#[]⟩))
      have A8 := ((((((A6.setP 0 (.int .i64 1)).setP 1 (.string nd)).setP 2 (.int .i64 ic)).setP 3 (.string ad)).setP 4 (.int .i64 (pt : Nat))).setP 5 (.string tx)).setP 6 (.string ⟨#[]⟩)
      refine bodyPost_ret (v := .agg #[.int .i64 1, .string nd, .int .i64 ic, .string ad, .int .i64 (pt : Nat), .string tx, .string ⟨#[]⟩]) (by simp [results, Try.results33, go_sem, g0, g1, g2, g3, g4, g5, g6]) rfl ?_
      exact ⟨⟨⟨1, nd, ic, ad, pt, tx, ⟨#[]⟩⟩, rfl, rfl, rfl, rfl, .inl rfl, unhide Had, by show (0 : Int) ≤ (pt : Int); omega, by show (pt : Int) ≤ 65535; omega, unhide Htx⟩, A8.ro, A8.fr⟩

end Go.Proofs.Ytdhobdmhnocbgaa

namespace Go.Proofs.Ytdhobdmhnocbgaa
open Go.RowKit Zr

/-- The list without what a node has of the greatest Inc. -/
def restL (nd : ByteArray) (l : List Ev) : List Ev := l.filter fun x => !decide (x.node = nd ∧ x.inc = 2147483647)

theorem rest_take (nd : ByteArray) (l : List Ev) (j : Nat) (h : j < l.length) : (¬ (l[j].node = nd ∧ l[j].inc = 2147483647) → restL nd (l.take (j + 1)) = restL nd (l.take j) ++ [l[j]]) ∧ (l[j].node = nd ∧ l[j].inc = 2147483647 → restL nd (l.take (j + 1)) = restL nd (l.take j)) := by
  have e : l.take (j + 1) = l.take j ++ [l[j]] := List.take_succ_eq_append_getElem h
  rw [e]
  unfold restL
  rw [List.filter_append]
  refine ⟨fun hg => ?_, fun hg => ?_⟩
  · rw [List.filter_cons_of_pos (by show (!decide _) = true; rw [decide_eq_false hg]; rfl)]; rfl
  · rw [List.filter_cons_of_neg (by show ¬ (!decide _) = true; rw [decide_eq_true hg]; simp)]; simp

/-- v is above all that the list has of the node below the greatest Inc. -/
def Above (nd : ByteArray) (l : List Ev) (v : Int) : Prop := ∀ x, x ∈ l → x.node = nd → x.inc < 2147483647 → x.inc < v

theorem above_keep {nd : ByteArray} {l : List Ev} {v : Int} (h : Above nd l v) {x : Ev} (hx : x.node = nd → x.inc < 2147483647 → x.inc < v) : Above nd (l ++ [x]) v := by
  intro y hy h1 h2
  rcases List.mem_append.1 hy with q | q
  · exact h y q h1 h2
  · rw [List.mem_singleton] at q
    subst q
    exact hx h1 h2
theorem above_more {nd : ByteArray} {l : List Ev} {v u : Int} (h : Above nd l v) (hu : v ≤ u) : Above nd l u := fun x hx h1 h2 => by
  have := h x hx h1 h2
  omega

theorem above_older {nd : ByteArray} {l : List Ev} {v : Int} (h : Above nd (restL nd l) v) {e : Ev} (he : e.node = nd) (hi : e.inc = v) : Older (restL nd l) e := by
  intro x hx hg hn
  obtain ⟨_, hm⟩ := List.mem_filter.1 hx
  have h2 : ¬ (x.node = nd ∧ x.inc = 2147483647) := fun q => by
    have hm' : (!decide (x.node = nd ∧ x.inc = 2147483647)) = true := hm
    rw [decide_eq_true q] at hm'
    cases hm'
  have hxn : x.node = nd := hn.trans he
  have h3 := hg.2.2.1
  rw [hi]
  exact h x hx hxn (by
    have : x.inc ≠ 2147483647 := fun q => h2 ⟨hxn, q⟩
    omega)

/-- What newest answers. -/
def NewOut (nd : ByteArray) (l : List Ev) (w : World) (e : Ending) (w' : World) : Prop :=
  ∃ (a : Option Addr) (c : Nat) (v : Nat), e = .returned (.tuple #[.slice a (restL nd l).length c, .int .i64 v]) ∧ v ≤ 2147483647 ∧ Above nd (restL nd l) v ∧ w'.ownsRow w.heap.size 63 7 (.slice a (restL nd l).length c) (restL nd l).length (evC (restL nd l)) ∧ Below w.heap.size w w'

set_option maxRecDepth 100000 in
set_option maxHeartbeats 4000000 in
theorem newest_k (nd : ByteArray) (l : List Ev) (a : Option Addr) (c N : Nat) (w : World) (hrow : RowAt w N a (evC l)) (hN : N ≤ w.heap.size) (hl : l.length ≤ 33554432) :
    Calls Try.prog 32 #[.slice a l.length c, .string nd] w fun e w' => NewOut nd l w e w' := by
  have HRow := hide hrow
  have HT := hide (rest_take nd l)
  obtain ⟨i0, hi, hz0, hz1, hz2⟩ := info_parts Try.info63
  have Hi := hide hi
  have Hz0 := hide hz0
  have Hz1 := hide hz1
  have Hz2 := hide hz2
  clear hi hz0 hz1 hz2 hrow
  obtain ⟨M, hM⟩ : ∃ M, w.heap.size = M := ⟨_, rfl⟩
  have HM := hide hM
  have hs0 : M ≤ w.heap.size := by omega
  rw [hM] at hN
  clear hM
  go_enter Try.func32, Try.ntmps32
  go_wp2_with fail
  go_loopg [6, 7, 8] (l.length + 1) (fun g vl vv vi w' => ∃ (j n v : Nat) (ar : Option Addr) (cr : Nat), vi = .int .i64 j ∧ j ≤ l.length ∧ g = l.length + 1 - j ∧ vl = .slice ar n cr ∧ n ≤ j ∧ vv = .int .i64 v ∧ v ≤ 2147483647 ∧ Hid (Above nd (restL nd (l.take j)) v) ∧ Hid ((restL nd (l.take j)).length = n) ∧ Hid (w'.ownsRow M 63 7 (.slice ar n cr) n (evC (restL nd (l.take j)))) ∧ Hid (Below M w w') ∧ M ≤ w'.heap.size)
  case atStart => exact ⟨0, 0, 0, none, 0, rfl, Nat.zero_le _, rfl, rfl, Nat.le_refl _, rfl, by omega, hide (fun x hx => by simp [restL] at hx), hide rfl, hide (World.ownsRow_nil _ _ _ _), hide (Below.refl _ _), hs0⟩
  case round =>
    obtain ⟨j, n, v, ar, cr, rfl, hj, rfl, rfl, hn, rfl, hv, HA, HS, HO, HB, hs⟩ := hrel
    by_cases cj : j < l.length
    · obtain ⟨b, o, rfl, hb, x0, x1, x2, x3, x4, x5, x6⟩ := row_e ((unhide HRow).below ((unhide HB).mono hN)) j cj
      obtain ⟨t1, t2⟩ := unhide HT j cj
      have T1 := hide t1
      have T2 := hide t2
      clear t1 t2
      obtain ⟨k, hk⟩ : ∃ k, l[j] = k := ⟨_, rfl⟩
      rw [hk] at T1 T2 x0 x1 x2 x3 x4 x5 x6
      clear hk
      obtain ⟨kd, n0, ic, ad, pt, tx, al⟩ := k
      simp only at x0 x1 x2 x3 x4 x5 x6
      by_cases cc : n0 = nd ∧ ic = 2147483647
      · have HT2 := hide (unhide T2 cc)
        have f1 := strs_eq cc.1
        have f2 : (ic == 2147483647) = true := by rw [beq_iff_eq]; exact cc.2
        clear cc
        go_wp2_with fail
        go_roundg (l.length + 1 - (j + 1))
        case measure => omega
        case rel => exact ⟨j + 1, n, v, ar, cr, by go_num, by omega, rfl, rfl, by omega, rfl, hv, hide (by rw [unhide HT2]; exact unhide HA), hide (by rw [unhide HT2]; exact unhide HS), hide (by rw [unhide HT2]; exact unhide HO), HB, hs⟩
      · have HT1 := hide (unhide T1 cc)
        have hcase : ∃ u : Nat, Hid (Above nd (restL nd (l.take j) ++ [⟨kd, n0, ic, ad, pt, tx, al⟩]) u) ∧ u ≤ 2147483647 ∧ (((n0.toList == nd.toList) = false ∧ u = v) ∨ ((n0.toList == nd.toList) = true ∧ (ic == 2147483647) = false ∧ decide ((v : Int) ≤ ic) = false ∧ u = v) ∨ ((n0.toList == nd.toList) = true ∧ (ic == 2147483647) = false ∧ decide ((v : Int) ≤ ic) = true ∧ decide (ic < 2147483647) = false ∧ u = v) ∨ ((n0.toList == nd.toList) = true ∧ (ic == 2147483647) = false ∧ decide ((v : Int) ≤ ic) = true ∧ decide (ic < 2147483647) = true ∧ 0 ≤ ic ∧ ic < 2147483647 ∧ Hid ((u : Int) = ic + 1))) := by
          by_cases q : n0 = nd
          · have hm : (ic == 2147483647) = false := beq_eq_false_iff_ne.2 fun h => cc ⟨q, h⟩
            by_cases q1 : (v : Int) ≤ ic
            · by_cases q2 : ic < 2147483647
              · exact ⟨(ic + 1).toNat, hide (above_keep (above_more (unhide HA) (by omega)) (fun _ _ => by show ic < _; omega)), by omega, .inr (.inr (.inr ⟨strs_eq q, hm, decide_eq_true q1, decide_eq_true q2, by omega, q2, hide (by omega)⟩))⟩
              · exact ⟨v, hide (above_keep (unhide HA) (fun _ h => absurd h q2)), hv, .inr (.inr (.inl ⟨strs_eq q, hm, decide_eq_true q1, decide_eq_false q2, rfl⟩))⟩
            · exact ⟨v, hide (above_keep (unhide HA) (fun _ _ => by show ic < _; omega)), hv, .inr (.inl ⟨strs_eq q, hm, decide_eq_false q1, rfl⟩)⟩
          · exact ⟨v, hide (above_keep (unhide HA) (fun h => absurd h q)), hv, .inl ⟨strs_ne q, rfl⟩⟩
        obtain ⟨u, HU, hu, hcase⟩ := hcase
        clear cc T1 T2
        rcases hcase with ⟨f1, rfl⟩ | ⟨f1, f2, f3, rfl⟩ | ⟨f1, f2, f3, f4, rfl⟩ | ⟨f1, f2, f3, f4, f5, f6, HE⟩
        all_goals
          go_wp2_with (at_builtin; refine wpList_append_row _ rfl _ _ 51 51 rfl M 63 i0 (.agg #[.int .i64 0, .string ⟨#[]⟩, .int .i64 0, .string ⟨#[]⟩, .int .i64 0, .string ⟨#[]⟩, .string ⟨#[]⟩]) 7 88 Try.underlying51 (unhide Hi) (unhide Hz0) (unhide Hz1) (unhide Hz2) rfl (.slice ar n cr) n (evC (restL nd (l.take j))) (by rfl) ((unhide HO).alloc _) (.slice (some ⟨wr.heap.size, 0, none⟩) 1 1) 1 [.int .i64 kd, .string n0, .int .i64 ic, .string ad, .int .i64 pt, .string tx, .string al] (by rfl) (Src.ofSlice _ Try.underlying51 ⟨wr.heap.size, 0, none⟩ 1 1 _ rfl (cell_seven_new _ _ _ _ _ _ _ _ _ _ rfl) one7) (by unfold maxLen; omega) (by omega) (by simp; omega) ?_; intro a1 e1 w2 hown2 hgrow2 hat2; have hA := (Below.refl M wr).alloc hs (.cells #[.int .i64 kd, .string n0, .int .i64 ic, .string ad, .int .i64 pt, .string tx, .string al] 63); have hB2 := hA.trans (below_append ((unhide HO).alloc _) hgrow2 (Nat.le_trans hs hA.size)); have hs2 := Nat.le_trans hs (Nat.le_trans hA.size hgrow2.size); have y1 := (hB2.cell (p := ⟨b, o + j * 7 + 1, none⟩) (by show b < _; omega)).trans x1; have y2 := (hB2.cell (p := ⟨b, o + j * 7 + 2, none⟩) (by show b < _; omega)).trans x2)
          go_roundg (l.length + 1 - (j + 1))
          case measure => omega
          case rel =>
            refine ⟨j + 1, n + 1, u, a1, e1, by go_num, by omega, rfl, rfl, by omega, by first | rfl | (rw [unhide HE]), hu, hide (by rw [unhide HT1]; exact unhide HU), hide ?_, hide ?_, hide ((unhide HB).trans hB2), hs2⟩
            · rw [unhide HT1, List.length_append, unhide HS]; rfl
            · rw [unhide HT1, evC_push]; exact hown2
    · have ej : j = l.length := by omega
      subst ej
      have hw : NewOut nd l w (.returned (.tuple #[.slice ar n cr, .int .i64 v])) wr := by
        have h1 := unhide HS
        have h2 := unhide HO
        have h3 := unhide HA
        rw [List.take_length] at h1 h2 h3
        exact ⟨ar, cr, v, by rw [h1], hv, h3, by rw [h1, unhide HM]; exact h2, by rw [unhide HM]; exact unhide HB⟩
      have HW := hide hw
      clear hw
      go_wp2_with fail
      go_ret2
      exact unhide HW

end Go.Proofs.Ytdhobdmhnocbgaa

namespace Go.Proofs.Ytdhobdmhnocbgaa
open Go.RowKit Zr

theorem evC_cut (l : List Ev) (k : Nat) : evC l = evC (l.take k) ++ evC (l.drop k) := by rw [← evC_append, List.take_append_drop]
theorem evC_put (A B : List Ev) (x : Ev) : evC A ++ [.int .i64 x.kind, .string x.node, .int .i64 x.inc, .string x.addr, .int .i64 x.port, .string x.text, .string x.alias] ++ evC B = evC (A ++ x :: B) := by
  rw [evC_append, List.append_assoc]
  rfl

theorem owns_down {w : World} {N M : Nat} {e : TypeId} {size : Nat} {v : Value} {n : Nat} {xs : List Value} (h : w.ownsRow N e size v n xs) (hM : M ≤ N) : w.ownsRow M e size v n xs := by
  refine ⟨h.1, ?_⟩
  rcases h.2 with hn | ⟨g, cap, cur, hv, hbg, rest⟩
  · exact .inl hn
  · exact .inr ⟨g, cap, cur, hv, Nat.le_trans hM hbg, rest⟩

/-- A part of a row, to be appended. -/
theorem srcE_take {w : World} {N : Nat} {ax : Option Addr} {nx cx : Nat} {l : List Ev} (h : w.ownsRow N 63 7 (.slice ax nx cx) nx (evC l)) (hl : l.length = nx) (k cy : Nat) (hk : k ≤ nx) (hn : ax = none → cy = cx) : Src Try.prog 7 51 (.slice ax k cy) k (evC (l.take k)) w := by
  rcases h.2 with ⟨h0, _⟩ | ⟨g, cap, cur, h0, _⟩
  · cases h0
    have : k = 0 := by omega
    subst this
    rw [hn rfl]
    exact Src.ofNil _ Try.underlying51 0
  · cases h0
    refine Src.ofSlice _ Try.underlying51 ⟨g, 0, none⟩ k _ _ (by rw [evC_len, List.length_take]; congr 1; omega) (fun j u hu => ?_) (fun x hx => evC_one _ x hx)
    refine h.cells (g := g) rfl j u ?_
    rw [evC_cut l k, List.getElem?_append_left (List.getElem?_eq_some_iff.1 hu).1]
    exact hu

theorem srcE_drop {w : World} {N : Nat} {g nx cx : Nat} {l : List Ev} (h : w.ownsRow N 63 7 (.slice (some ⟨g, 0, none⟩) nx cx) nx (evC l)) (hl : l.length = nx) (k : Nat) (hk : k ≤ nx) (cy : Nat) : Src Try.prog 7 51 (.slice (some ⟨g, k * 7, none⟩) (nx - k) cy) (nx - k) (evC (l.drop k)) w := by
  refine Src.ofSlice _ Try.underlying51 ⟨g, k * 7, none⟩ (nx - k) _ _ (by rw [evC_len, List.length_drop]; congr 1; omega) (fun j u hu => ?_) (fun x hx => evC_one _ x hx)
  have e := h.cells (g := g) rfl (k * 7 + j) u (by
    rw [evC_cut l k, List.getElem?_append_right (by rw [evC_len, List.length_take]; omega), evC_len, List.length_take]
    rw [show k * 7 + j - min k l.length * 7 = j by rw [Nat.min_eq_left (by omega)]; omega]
    exact hu)
  rw [Addr.add_lit] at e ⊢
  rw [show k * 7 + j = k * 7 + j from rfl]
  simpa using e

/-- No more is to be appended. -/
theorem srcE_none {w : World} (a : Addr) (cy : Nat) : Src Try.prog 7 51 (.slice (some a) 0 cy) 0 [] w :=
  Src.ofSlice _ Try.underlying51 a 0 _ _ rfl (fun j u hu => by simp at hu) (fun x hx => by simp at hx)

/-- One more at any place. -/
def AmongOut (w : World) (l : List Ev) (x : Ev) (n : Nat) (e : Ending) (w' : World) : Prop := ∃ k, k ≤ n ∧ EvsOut w (l.take k ++ x :: l.drop k) e w'

set_option maxRecDepth 100000 in
set_option maxHeartbeats 8000000 in
theorem among_k (l : List Ev) (x : Ev) (v : Int) (a : Option Addr) (n c N : Nat) (w : World) (hrow : w.ownsRow N 63 7 (.slice a n c) n (evC l)) (hl : l.length = n) (hn : n ≤ 16777216) (h1 : -9223372036854775808 ≤ v) (h2 : v < 9223372036854775808) :
    Calls Try.prog 35 #[.slice a n c, .int .i64 v, x.val] w fun e w' => AmongOut w l x n e w' := by
  obtain ⟨kd, n0, ic, ad, pt, tx, al⟩ := x
  unfold Ev.val
  simp only
  obtain ⟨i0, hi, hz0, hz1, hz2⟩ := info_parts Try.info63
  have Hi := hide hi
  have Hz0 := hide hz0
  have Hz1 := hide hz1
  have Hz2 := hide hz2
  have kp := fun W => pick_any v (n + 1) ((n : Int) + 1) W h1 h2 (by omega) (by omega) (by omega)
  have KP := hide kp
  have HE := hide (heap_alloc_new w (.cells #[.int .i64 kd, .string n0, .int .i64 ic, .string ad, .int .i64 pt, .string tx, .string al] 63))
  have hB := (Below.refl w.heap.size w).alloc (Nat.le_refl _) (.cells #[.int .i64 kd, .string n0, .int .i64 ic, .string ad, .int .i64 pt, .string tx, .string al] 63)
  have HB := hide hB
  have HRo := hide (owns_below hrow hB)
  have HL := hide hl
  clear hi hz0 hz1 hz2 kp hB hrow hl h1 h2
  go_enter Try.func35, Try.ntmps35
  go_wp2_with fail
  refine (unhide KP _).mono ?_
  rintro e w1 ⟨⟨k, hk, rfl⟩, rfl⟩
  clear KP
  go_upto_region 3 with fail
  generalize w.alloc (.cells #[.int .i64 kd, .string n0, .int .i64 ic, .string ad, .int .i64 pt, .string tx, .string al] 63) = W at *
  generalize hO : w.heap.size = O at *
  have i1 : (0 : Int) ≤ (k : Int) := by omega
  have hkn : k ≤ n := by omega
  have HO := hide hO
  clear hO
  rcases (unhide HRo).2 with ⟨h0, hn0⟩ | ⟨g, cap, cur, h0, hbg, hgb, hrest⟩
  · cases h0
    obtain rfl : k = 0 := by omega
    go_upto_region 4 with (at_builtin; refine wpList_append_row _ rfl _ _ 51 51 rfl W.heap.size 63 i0 (.agg #[.int .i64 0, .string ⟨#[]⟩, .int .i64 0, .string ⟨#[]⟩, .int .i64 0, .string ⟨#[]⟩, .string ⟨#[]⟩]) 7 88 Try.underlying51 (unhide Hi) (unhide Hz0) (unhide Hz1) (unhide Hz2) rfl (.slice none 0 0) 0 [] (by rfl) (World.ownsRow_nil _ _ _ _) (.slice none 0 0) 0 (evC (l.take 0)) (by rfl) (Src.ofNil _ Try.underlying51 0) (by unfold maxLen; omega) (by omega) (Nat.le_refl _) ?_; intro a1 c1 w2 hown2 hgrow2 hat2; simp only [Nat.zero_add, List.nil_append] at hown2 ⊢; have hb2 := below_append (World.ownsRow_nil W W.heap.size 63 7) hgrow2 (Nat.le_refl _); clear hgrow2 hat2)
    obtain ⟨⟨o0, o1, o2, o3, o4, o5, o6⟩, _⟩ := cells7 ((hb2.block O (blk_lt (unhide HE))).trans (unhide HE))
    have s2 := hb2.size
    have lO : O < w2.heap.size := by have := blk_lt (unhide HE); omega
    go_upto_region 5 with (at_builtin; refine wpList_append_row _ rfl _ _ 51 51 rfl W.heap.size 63 i0 (.agg #[.int .i64 0, .string ⟨#[]⟩, .int .i64 0, .string ⟨#[]⟩, .int .i64 0, .string ⟨#[]⟩, .string ⟨#[]⟩]) 7 88 Try.underlying51 (unhide Hi) (unhide Hz0) (unhide Hz1) (unhide Hz2) rfl (.slice a1 0 c1) 0 (evC (l.take 0)) (by rfl) (hown2.alloc _) (.slice (some ⟨w2.heap.size, 0, none⟩) 1 1) 1 [.int .i64 kd, .string n0, .int .i64 ic, .string ad, .int .i64 pt, .string tx, .string al] (by rfl) (Src.ofSlice _ Try.underlying51 ⟨w2.heap.size, 0, none⟩ 1 1 _ rfl (cell_seven_new _ _ _ _ _ _ _ _ _ _ rfl) one7) (by unfold maxLen; omega) (by omega) (by simp; omega) ?_; intro a2 c2 w3 hown3 hgrow3 hat3; have hb3 := (hb2.alloc s2 _).trans (below_append (hown2.alloc _) hgrow3 (by simp; omega)); clear hgrow3 hat3)
    clear o0 o1 o2 o3 o4 o5 o6 lO hown2 hb2 s2
    have s3 := hb3.size
    have hro3 := owns_below (unhide HRo) hb3
    have HRo3 := hide hro3
    clear hro3
    obtain ⟨ny, hny⟩ : ∃ ny, 0 + 1 + 0 = ny := ⟨_, rfl⟩
    have HNY := hide hny
    have hlen : (l.take 0 ++ (⟨kd, n0, ic, ad, pt, tx, al⟩ : Ev) :: l.drop 0).length = ny := by rw [← hny, List.length_append, List.length_cons, List.length_take, List.length_drop]; have := unhide HL; omega
    have HLen := hide hlen
    clear hny hlen
    go_upto_region 6 with (at_builtin; (refine wpList_append_row _ rfl _ _ 51 51 rfl W.heap.size 63 i0 (.agg #[.int .i64 0, .string ⟨#[]⟩, .int .i64 0, .string ⟨#[]⟩, .int .i64 0, .string ⟨#[]⟩, .string ⟨#[]⟩]) 7 88 Try.underlying51 (unhide Hi) (unhide Hz0) (unhide Hz1) (unhide Hz2) rfl (.slice a2 (0 + 1) c2) (0 + 1) (evC (l.take 0) ++ [.int .i64 kd, .string n0, .int .i64 ic, .string ad, .int .i64 pt, .string tx, .string al]) (by rfl) hown3 (.slice none 0 0) (0) (evC (l.drop 0)) (by rfl) (by rw [List.drop_eq_nil_of_le (by rw [unhide HL]; omega)]; exact Src.ofNil _ Try.underlying51 _) (by unfold maxLen; omega) (by omega) s3 ?_; intro a3 c3 w4 hown4 hgrow4 hat4; have hb4 := hb3.trans (below_append hown3 hgrow4 s3); clear hgrow4 hat4; rw [unhide HNY] at hown4 ⊢))
    rw [evC_put _ _ ⟨kd, n0, ic, ad, pt, tx, al⟩] at hown4
    have hw : EvsOut w (l.take 0 ++ (⟨kd, n0, ic, ad, pt, tx, al⟩ : Ev) :: l.drop 0) (.returned (.slice a3 ny c3)) w4 := by
      have hOW : O ≤ W.heap.size := Nat.le_of_lt (blk_lt (unhide HE))
      refine ⟨a3, c3, by rw [unhide HLen], ?_, ?_⟩
      · rw [unhide HLen, unhide HO]; exact owns_down hown4 hOW
      · rw [unhide HO]; exact (unhide HB).trans (hb4.mono hOW)
    have HW := hide hw
    clear hw hown4 hb4 hown3 hb3 s3
    go_wp2_with fail
    go_ret
    exact ⟨0, by omega, unhide HW⟩
  · cases h0
    have hnc : n ≤ c := hrest.1
    clear hbg hgb hrest
    have q3 : (k : Int) ≤ (c : Int) := by omega
    have q4 : (k : Int) ≤ (n : Int) := by omega
    have q5 : k ≤ c := by omega
    by_cases ck : c = k
    · obtain rfl : k = c := ck.symm
      obtain rfl : k = n := by omega
      go_upto_region 4 with (at_builtin; refine wpList_append_row _ rfl _ _ 51 51 rfl W.heap.size 63 i0 (.agg #[.int .i64 0, .string ⟨#[]⟩, .int .i64 0, .string ⟨#[]⟩, .int .i64 0, .string ⟨#[]⟩, .string ⟨#[]⟩]) 7 88 Try.underlying51 (unhide Hi) (unhide Hz0) (unhide Hz1) (unhide Hz2) rfl (.slice none 0 0) 0 [] (by rfl) (World.ownsRow_nil _ _ _ _) (.slice (some ⟨g, 0, none⟩) k k) k (evC (l.take k)) (by rfl) (srcE_take (unhide HRo) (unhide HL) k _ (by omega) (fun h => by cases h)) (by unfold maxLen; omega) (by omega) (Nat.le_refl _) ?_; intro a1 c1 w2 hown2 hgrow2 hat2; simp only [Nat.zero_add, List.nil_append] at hown2 ⊢; have hb2 := below_append (World.ownsRow_nil W W.heap.size 63 7) hgrow2 (Nat.le_refl _); clear hgrow2 hat2)
      obtain ⟨⟨o0, o1, o2, o3, o4, o5, o6⟩, _⟩ := cells7 ((hb2.block O (blk_lt (unhide HE))).trans (unhide HE))
      have s2 := hb2.size
      have lO : O < w2.heap.size := by have := blk_lt (unhide HE); omega
      go_upto_region 5 with (at_builtin; refine wpList_append_row _ rfl _ _ 51 51 rfl W.heap.size 63 i0 (.agg #[.int .i64 0, .string ⟨#[]⟩, .int .i64 0, .string ⟨#[]⟩, .int .i64 0, .string ⟨#[]⟩, .string ⟨#[]⟩]) 7 88 Try.underlying51 (unhide Hi) (unhide Hz0) (unhide Hz1) (unhide Hz2) rfl (.slice a1 k c1) k (evC (l.take k)) (by rfl) (hown2.alloc _) (.slice (some ⟨w2.heap.size, 0, none⟩) 1 1) 1 [.int .i64 kd, .string n0, .int .i64 ic, .string ad, .int .i64 pt, .string tx, .string al] (by rfl) (Src.ofSlice _ Try.underlying51 ⟨w2.heap.size, 0, none⟩ 1 1 _ rfl (cell_seven_new _ _ _ _ _ _ _ _ _ _ rfl) one7) (by unfold maxLen; omega) (by omega) (by simp; omega) ?_; intro a2 c2 w3 hown3 hgrow3 hat3; have hb3 := (hb2.alloc s2 _).trans (below_append (hown2.alloc _) hgrow3 (by simp; omega)); clear hgrow3 hat3)
      clear o0 o1 o2 o3 o4 o5 o6 lO hown2 hb2 s2
      have s3 := hb3.size
      have hro3 := owns_below (unhide HRo) hb3
      have HRo3 := hide hro3
      clear hro3
      obtain ⟨ny, hny⟩ : ∃ ny, k + 1 + 0 = ny := ⟨_, rfl⟩
      have HNY := hide hny
      have hlen : (l.take k ++ (⟨kd, n0, ic, ad, pt, tx, al⟩ : Ev) :: l.drop k).length = ny := by rw [← hny, List.length_append, List.length_cons, List.length_take, List.length_drop]; have := unhide HL; omega
      have HLen := hide hlen
      clear hny hlen
      go_upto_region 6 with (at_builtin; (refine wpList_append_row _ rfl _ _ 51 51 rfl W.heap.size 63 i0 (.agg #[.int .i64 0, .string ⟨#[]⟩, .int .i64 0, .string ⟨#[]⟩, .int .i64 0, .string ⟨#[]⟩, .string ⟨#[]⟩]) 7 88 Try.underlying51 (unhide Hi) (unhide Hz0) (unhide Hz1) (unhide Hz2) rfl (.slice a2 (k + 1) c2) (k + 1) (evC (l.take k) ++ [.int .i64 kd, .string n0, .int .i64 ic, .string ad, .int .i64 pt, .string tx, .string al]) (by rfl) hown3 (.slice (some ⟨g, 0, none⟩) 0 0) (0) (evC (l.drop k)) (by rfl) (by rw [List.drop_eq_nil_of_le (by rw [unhide HL]; omega)]; exact srcE_none _ _) (by unfold maxLen; omega) (by omega) s3 ?_; intro a3 c3 w4 hown4 hgrow4 hat4; have hb4 := hb3.trans (below_append hown3 hgrow4 s3); clear hgrow4 hat4; rw [unhide HNY] at hown4 ⊢))
      rw [evC_put _ _ ⟨kd, n0, ic, ad, pt, tx, al⟩] at hown4
      have hw : EvsOut w (l.take k ++ (⟨kd, n0, ic, ad, pt, tx, al⟩ : Ev) :: l.drop k) (.returned (.slice a3 ny c3)) w4 := by
        have hOW : O ≤ W.heap.size := Nat.le_of_lt (blk_lt (unhide HE))
        refine ⟨a3, c3, by rw [unhide HLen], ?_, ?_⟩
        · rw [unhide HLen, unhide HO]; exact owns_down hown4 hOW
        · rw [unhide HO]; exact (unhide HB).trans (hb4.mono hOW)
      have HW := hide hw
      clear hw hown4 hb4 hown3 hb3 s3
      go_wp2_with fail
      go_ret
      exact ⟨k, by omega, unhide HW⟩
    · have hck : k < c := by omega
      go_upto_region 4 with (at_builtin; refine wpList_append_row _ rfl _ _ 51 51 rfl W.heap.size 63 i0 (.agg #[.int .i64 0, .string ⟨#[]⟩, .int .i64 0, .string ⟨#[]⟩, .int .i64 0, .string ⟨#[]⟩, .string ⟨#[]⟩]) 7 88 Try.underlying51 (unhide Hi) (unhide Hz0) (unhide Hz1) (unhide Hz2) rfl (.slice none 0 0) 0 [] (by rfl) (World.ownsRow_nil _ _ _ _) (.slice (some ⟨g, 0, none⟩) k c) k (evC (l.take k)) (by rfl) (srcE_take (unhide HRo) (unhide HL) k _ (by omega) (fun h => by cases h)) (by unfold maxLen; omega) (by omega) (Nat.le_refl _) ?_; intro a1 c1 w2 hown2 hgrow2 hat2; simp only [Nat.zero_add, List.nil_append] at hown2 ⊢; have hb2 := below_append (World.ownsRow_nil W W.heap.size 63 7) hgrow2 (Nat.le_refl _); clear hgrow2 hat2)
      obtain ⟨⟨o0, o1, o2, o3, o4, o5, o6⟩, _⟩ := cells7 ((hb2.block O (blk_lt (unhide HE))).trans (unhide HE))
      have s2 := hb2.size
      have lO : O < w2.heap.size := by have := blk_lt (unhide HE); omega
      go_upto_region 5 with (at_builtin; refine wpList_append_row _ rfl _ _ 51 51 rfl W.heap.size 63 i0 (.agg #[.int .i64 0, .string ⟨#[]⟩, .int .i64 0, .string ⟨#[]⟩, .int .i64 0, .string ⟨#[]⟩, .string ⟨#[]⟩]) 7 88 Try.underlying51 (unhide Hi) (unhide Hz0) (unhide Hz1) (unhide Hz2) rfl (.slice a1 k c1) k (evC (l.take k)) (by rfl) (hown2.alloc _) (.slice (some ⟨w2.heap.size, 0, none⟩) 1 1) 1 [.int .i64 kd, .string n0, .int .i64 ic, .string ad, .int .i64 pt, .string tx, .string al] (by rfl) (Src.ofSlice _ Try.underlying51 ⟨w2.heap.size, 0, none⟩ 1 1 _ rfl (cell_seven_new _ _ _ _ _ _ _ _ _ _ rfl) one7) (by unfold maxLen; omega) (by omega) (by simp; omega) ?_; intro a2 c2 w3 hown3 hgrow3 hat3; have hb3 := (hb2.alloc s2 _).trans (below_append (hown2.alloc _) hgrow3 (by simp; omega)); clear hgrow3 hat3)
      clear o0 o1 o2 o3 o4 o5 o6 lO hown2 hb2 s2
      have s3 := hb3.size
      have hro3 := owns_below (unhide HRo) hb3
      have HRo3 := hide hro3
      clear hro3
      obtain ⟨ny, hny⟩ : ∃ ny, k + 1 + (n - k) = ny := ⟨_, rfl⟩
      have HNY := hide hny
      have hlen : (l.take k ++ (⟨kd, n0, ic, ad, pt, tx, al⟩ : Ev) :: l.drop k).length = ny := by rw [← hny, List.length_append, List.length_cons, List.length_take, List.length_drop]; have := unhide HL; omega
      have HLen := hide hlen
      clear hny hlen
      go_upto_region 6 with (at_builtin; (refine wpList_append_row _ rfl _ _ 51 51 rfl W.heap.size 63 i0 (.agg #[.int .i64 0, .string ⟨#[]⟩, .int .i64 0, .string ⟨#[]⟩, .int .i64 0, .string ⟨#[]⟩, .string ⟨#[]⟩]) 7 88 Try.underlying51 (unhide Hi) (unhide Hz0) (unhide Hz1) (unhide Hz2) rfl (.slice a2 (k + 1) c2) (k + 1) (evC (l.take k) ++ [.int .i64 kd, .string n0, .int .i64 ic, .string ad, .int .i64 pt, .string tx, .string al]) (by rfl) hown3 (.slice (some ⟨g, k * 7, none⟩) (n - k) (c - k)) (n - k) (evC (l.drop k)) (by rfl) (srcE_drop (unhide HRo3) (unhide HL) k (by omega) _) (by unfold maxLen; omega) (by omega) s3 ?_; intro a3 c3 w4 hown4 hgrow4 hat4; have hb4 := hb3.trans (below_append hown3 hgrow4 s3); clear hgrow4 hat4; rw [unhide HNY] at hown4 ⊢))
      rw [evC_put _ _ ⟨kd, n0, ic, ad, pt, tx, al⟩] at hown4
      have hw : EvsOut w (l.take k ++ (⟨kd, n0, ic, ad, pt, tx, al⟩ : Ev) :: l.drop k) (.returned (.slice a3 ny c3)) w4 := by
        have hOW : O ≤ W.heap.size := Nat.le_of_lt (blk_lt (unhide HE))
        refine ⟨a3, c3, by rw [unhide HLen], ?_, ?_⟩
        · rw [unhide HLen, unhide HO]; exact owns_down hown4 hOW
        · rw [unhide HO]; exact (unhide HB).trans (hb4.mono hOW)
      have HW := hide hw
      clear hw hown4 hb4 hown3 hb3 s3
      go_wp2_with fail
      go_ret
      exact ⟨k, by omega, unhide HW⟩

end Go.Proofs.Ytdhobdmhnocbgaa

namespace Go.Proofs.Ytdhobdmhnocbgaa
open Go.RowKit Zr

theorem parse_first : parseP ⟨#[0, 1, 0, 0, 0, 1, 0, 0, 0, 0, 0, 0, 1, 97, 0, 0, 1, 0, 1]⟩ = .ok ⟨1, 0, [⟨⟨#[1, 97, 0]⟩, 1, 1⟩], [], [], []⟩ := by kernel_rfl

set_option maxRecDepth 100000 in
set_option maxHeartbeats 2000000 in
theorem begins_n (w : World) : Calls Try.prog 18 #[] w fun e w' => e = .returned (.bool true) ∧ Below w.heap.size w w' := by
  have hps := zoneParse_any ⟨#[0, 1, 0, 0, 0, 1, 0, 0, 0, 0, 0, 0, 1, 97, 0, 0, 1, 0, 1]⟩ w (by decide)
  rw [parse_first] at hps
  have HPS := hide hps
  clear hps
  go_enter Try.func18, Try.ntmps18
  go_wp2_with fail
  refine (unhide HPS).mono ?_
  rintro e w1 ⟨v, rfl, hmi, hb1⟩
  have hmi' : MsgIs w1 w.heap.size v ⟨1, 0, [⟨⟨#[1, 97, 0]⟩, 1, 1⟩], [], [], []⟩ := hmi
  obtain ⟨a1, c1, a2, c2, a3, c3, a4, c4, rfl, o1, _⟩ := hmi'
  obtain ⟨g, cap, hg, _⟩ := o1.form (by decide)
  cases hg
  have x0 := o1.cells (g := g) rfl 0 (.string ⟨#[1, 97, 0]⟩) rfl
  simp only [Addr.add_lit, List.length_cons, List.length_nil, Nat.zero_add] at x0 ⊢
  have HB := hide hb1
  clear hmi HPS o1 hb1
  go_wp2_with fail
  go_ret
  exact ⟨rfl, (unhide HB).alloc (unhide HB).size _⟩

theorem records_nil : ∃ s, recordsP [] = [madeR originB 6 s, madeR originB 2 serverB] := ⟨soaB (serTo [] 0).toNat, by
  have hu : upP [] = [] := rfl
  unfold recordsP
  rw [hu]
  rfl⟩

set_option maxRecDepth 100000 in
set_option maxHeartbeats 2000000 in
theorem fixed_k (w : World) : Calls Try.prog 29 #[] w fun e w' => e = .returned (.bool true) ∧ Below w.heap.size w w' := by
  have k1 := begins_n w
  have k2 := fun W => records_z [] none 0 0 W (fun h => absurd rfl h) (Nat.zero_le _) (by simp) (fun i h => by simp at h)
  obtain ⟨s, hs⟩ := records_nil
  rw [hs] at k2
  have K1 := hide k1
  have K2 := hide k2
  clear k1 k2 hs
  go_enter Try.func29, Try.ntmps29
  go_wp2_with fail
  refine (unhide K1).mono ?_
  rintro e w1 ⟨rfl, hb1⟩
  have HB1 := hide hb1
  clear hb1 K1
  go_wp2_with fail
  refine (unhide K2 _).mono ?_
  rintro e w2 ⟨a, c, rfl, o1, hb2⟩
  obtain ⟨g, cap, hg, _⟩ := o1.form (Nat.zero_lt_succ _)
  cases hg
  have x0 := o1.cells (g := g) rfl 0 (.string originB) rfl
  have x1 := o1.cells (g := g) rfl 1 (.int .i64 6) rfl
  have x2 := o1.cells (g := g) rfl 6 (.int .i64 2) rfl
  simp only [Addr.add_lit, List.length_cons, List.length_nil, Nat.zero_add] at x0 x1 x2 ⊢
  have HB := hide ((unhide HB1).trans (hb2.mono (unhide HB1).size))
  clear hb2 K2 o1 HB1
  unfold originB at x0
  go_wp2_with fail
  go_ret
  exact ⟨rfl, unhide HB⟩

end Go.Proofs.Ytdhobdmhnocbgaa

namespace Go.Proofs.Ytdhobdmhnocbgaa
open Go.RowKit Zr

theorem bear_small {up : List Ev} (h : ∀ u, u ∈ up → u.node.size ≤ 15) (a : ByteArray) : ∀ k, k ≤ up.length → (bearTo up a k).size ≤ 15
  | 0, _ => by show (0 : Nat) ≤ 15; omega
  | k + 1, hk => by
    unfold bearTo
    split
    · exact h _ (ev_mem (by omega))
    · exact bear_small h a k (by omega)

theorem rec_data (L : List Ev) {x : RI} (h : x ∈ recordsP L) : x.data.size ≤ 4294967296 := by
  have hup : ∀ u, u ∈ upP L → u.node.size ≤ 15 ∧ u.addr.size ≤ 16 ∧ u.text.size ≤ 60 := by
    intro u hu
    rw [← up_same] at hu
    obtain ⟨hg, hk⟩ := up_mem hu
    rcases hg.2.2.2 with h2 | ⟨_, h2⟩
    · omega
    · refine ⟨hg.1.2.2, ?_, h2.2.2.2.2⟩
      rcases h2.2.1 with q | q <;> omega
  unfold recordsP at h
  rcases List.mem_append.1 h with h | h
  · rcases List.mem_append.1 h with h | h
    · rcases List.mem_append.1 h with h | h
      · simp only [List.mem_cons, List.not_mem_nil, or_false] at h
        rcases h with rfl | rfl
        · show (soaB _).size ≤ _
          unfold soaB
          simp only [ByteArray.size_append, q4_size]
          show 13 + 16 + 4 + 4 + 4 + 4 + 4 ≤ _
          omega
        · show (13 : Nat) ≤ _
          omega
      · obtain ⟨u, hu, hx⟩ := List.mem_flatMap.1 h
        obtain ⟨h1, h2, h3⟩ := hup u hu
        unfold nodeR at hx
        rcases List.mem_cons.1 hx with rfl | hx
        · show u.addr.size ≤ _
          omega
        · split at hx
          · simp at hx
          · rw [List.mem_singleton] at hx
            subst hx
            show (one u.text.size ++ u.text).size ≤ _
            rw [ByteArray.size_append]
            show 1 + u.text.size ≤ _
            omega
    · obtain ⟨a, _, rfl⟩ := ali_rec h
      show (underP _).size ≤ _
      rw [under_size]
      unfold bearP
      split
      · show 0 + 11 ≤ _
        omega
      · have := bear_small (fun u hu => (hup u hu).1) a _ (Nat.le_refl _)
        omega
  · obtain ⟨u, hu, rfl⟩ := List.mem_map.1 h
    have h1 := (hup u hu).1
    rw [(srv_data u).1, under_size]
    omega

theorem ro_start {w : World} {N : Nat} {a : Option Addr} {n c : Nat} (h : RawAt w N a n) (hN : N ≤ w.heap.size) (hn : n ≤ 9223372036854775807) : Ro (w.alloc (.cells #[.slice a n c, .int .i64 0, .slice none 0 0] 57)) N w.heap.size a n c [] :=
  ⟨0, none, 0, heap_alloc_new _ _, hN, Nat.zero_le _, hn, World.ownsRow_nil _ _ _ _, h.below ((Below.refl N w).alloc hN _), fun s hs => by simp at hs⟩

theorem own_atN {w : World} {N : Nat} {e : TypeId} {size : Nat} {a : Option Addr} {n c : Nat} {xs : List Value} (h : w.ownsRow N e size (.slice a n c) n xs) : RowAt w w.heap.size a xs := by
  intro hx
  rcases h.2 with ⟨_, h0⟩ | ⟨g, cap, cur, h0, _, hg, _⟩
  · have := h.1
    rw [h0, Nat.zero_mul] at this
    exact absurd (List.eq_nil_of_length_eq_zero this) hx
  · cases h0
    refine ⟨g, 0, rfl, blk_lt hg, fun j u hu => ?_⟩
    have e := h.cells (g := g) rfl j u hu
    rw [Addr.add_lit] at e
    exact e

theorem present_k (L : List Ev) (x : Ev) (k : Nat) (hg : goodE x) (ho : Older L x) (hL : L.length ≤ 16000000) (a : Option Addr) (c : Nat) (w : World) (hrow : RowAt w w.heap.size a (rcI (recordsP (L.take k ++ x :: L.drop k)))) :
    Calls Try.prog 36 #[.slice a (recordsP (L.take k ++ x :: L.drop k)).length c, x.val] w fun r w' => r = .returned (.bool true) ∧ Below w.heap.size w w' := by
  have hlen := records_len (L.take k ++ x :: L.drop k)
  have hl2 : (L.take k ++ x :: L.drop k).length ≤ L.length + 1 := by rw [List.length_append, List.length_cons, List.length_take, List.length_drop]; omega
  have hzd : ∀ i (h : i < (recordsP (L.take k ++ x :: L.drop k)).length), (recordsP (L.take k ++ x :: L.drop k))[i].data.size ≤ 4294967296 := fun i h => rec_data _ (List.getElem_mem h)
  have ho' : Older (L.take k ++ L.drop k) x := by rw [List.take_append_drop]; exact ho
  rcases hg.2.2.2 with hk | ⟨hk, ha⟩
  · exact present_gone _ x a c w.heap.size w hrow (Nat.le_refl _) (by omega) hzd hg.1.2.2 hk (has_none (gone_up hg ho' hk))
  · exact present_alive _ x a c w.heap.size w hrow (Nat.le_refl _) (by omega) hzd hg.1.2.2 hk ha.2.2.1 ha.2.2.2.1 ha.2.2.2.2 ha.2.1 (has_up (new_up hg ho' hk))

theorem rest_sized {nd : ByteArray} {l : List Ev} (h : EvSized l) : EvSized (restL nd l) := by
  intro i hi
  obtain ⟨j, hj, e⟩ := List.getElem_of_mem (List.mem_filter.1 (List.getElem_mem hi)).1
  have := h j hj
  rw [e] at this
  exact this

theorem put_sized {L : List Ev} {x : Ev} (h : EvSized L) (hg : goodE x) (hs : x.addr.size ≤ 16 ∧ x.text.size ≤ 60 ∧ x.alias.size ≤ 15) (k : Nat) : EvSized (L.take k ++ x :: L.drop k) := by
  intro i hi
  have hm := List.getElem_mem hi
  generalize (L.take k ++ x :: L.drop k)[i] = y at hm
  have hc : y = x ∨ y ∈ L := by
    rcases List.mem_append.1 hm with q | q
    · exact .inr (List.mem_of_mem_take q)
    · rcases List.mem_cons.1 q with q | q
      · exact .inl q
      · exact .inr (List.mem_of_mem_drop q)
  rcases hc with rfl | q
  · have := hg.1.2.2
    omega
  · obtain ⟨j, hj, e⟩ := List.getElem_of_mem q
    have := h j hj
    rw [e] at this
    exact this

set_option maxRecDepth 100000 in
set_option maxHeartbeats 8000000 in
theorem newest_any (l : List Ev) (al : Option Addr) (cl : Nat) (a : Option Addr) (n c : Nat) (v : Int) (w : World) (hrow : RowAt w w.heap.size al (evC l)) (hl : l.length ≤ 16000000) (hz : EvSized l) (hraw : RawAt w w.heap.size a n) (hn : n ≤ 9223372036854775807) (h1 : -9223372036854775808 ≤ v) (h2 : v < 9223372036854775808) :
    Calls Try.prog 9 #[.slice al l.length cl, .slice a n c, .int .i64 v] w fun e w' => e = .returned (.bool true) ∧ Below w.heap.size w w' := by
  have K0 := hide (fixed_k w)
  have HRow := hide hrow
  have HZ := hide hz
  have HRaw := hide hraw
  clear hrow hz hraw
  obtain ⟨N, hN⟩ : ∃ N, w.heap.size = N := ⟨_, rfl⟩
  rw [hN] at K0 HRow HRaw ⊢
  go_enter Try.func9, Try.ntmps9
  go_wp2_with fail
  refine (unhide K0).mono ?_
  rintro e w1 ⟨rfl, hb1⟩
  have hs1 : N ≤ w1.heap.size := by have := hb1.size; omega
  have HB1 := hide hb1
  clear hb1 K0
  go_wp2_with fail
  have hR2 := ro_start (c := c) ((unhide HRaw).below (unhide HB1)) hs1 hn
  have hB2 := (unhide HB1).alloc hs1 (.cells #[.slice a n c, .int .i64 0, .slice none 0 0] 57)
  have hs2 : N ≤ (w1.alloc (.cells #[.slice a n c, .int .i64 0, .slice none 0 0] 57)).heap.size := by have := hB2.size; omega
  generalize w1.alloc (.cells #[.slice a n c, .int .i64 0, .slice none 0 0] 57) = w2 at *
  generalize w1.heap.size = R at *
  clear HB1 HRaw
  refine (next_any N R a n c [] 4 4 w2 hR2 (by omega) (by omega) rfl).mono ?_
  rintro e w3 ⟨⟨kk, hkk, rfl⟩, hR3, hg3⟩
  have hF3 := hR2.next hg3
  have hB3 := hB2.trans (hF3.below hs2)
  have hs3 : N ≤ w3.heap.size := by have := hB3.size; omega
  have KO := hide (node_k N R a n c [] l al cl w3 hR3 (rowK_low ((unhide HRow).below hB3) hs3) (by omega) (unhide HZ))
  have HB3 := hide hB3
  clear hg3 hF3 hB3 hR3 hR2 hB2 hs2
  go_wp2_with fail
  refine (unhide KO).mono ?_
  rintro e w4 ⟨⟨nd, rfl, hnd⟩, hR4, hF4⟩
  have hB4 := (unhide HB3).trans (hF4.below hs3)
  have hs4 : N ≤ w4.heap.size := by have := hB4.size; omega
  have KN := hide (newest_k nd l al cl N w4 ((unhide HRow).below hB4) hs4 (by omega))
  have HND := hide hnd
  have HR4 := hide hR4
  have HB4 := hide hB4
  clear KO HB3 hs3 hR4 hF4 hB4 hnd
  go_wp2_with fail
  refine (unhide KN).mono ?_
  rintro e w5 ⟨a2, c2, v2, rfl, hv2, hab, hown, hb5⟩
  have hll : (restL nd l).length ≤ 16000000 := Nat.le_trans (List.length_filter_le _ _) hl
  have hR5 := (unhide HR4).below hb5
  have hB5 := (unhide HB4).trans (hb5.mono hs4)
  have HSz := hide (rest_sized (nd := nd) (unhide HZ))
  have hold : ∀ x : Ev, x.node = nd → x.inc = (v2 : Int) → Older (restL nd l) x := fun x h h' => above_older hab h h'
  generalize restL nd l = L at *
  have hs5 : N ≤ w5.heap.size := by have := hB5.size; omega
  have KA := hide (alive_k N R a n c [] L a2 c2 nd (v2 : Nat) w5 hR5 (rowK_own hown) (by omega) (unhide HSz))
  have HOld := hide hold
  have HOwn := hide hown
  have HB5 := hide hB5
  clear KN HR4 HB4 hs4 hb5 hR5 hB5 hown hold hab
  go_wp2_with fail
  refine (unhide KA).mono ?_
  rintro e w6 ⟨⟨x, rfl, hx1, hx2, hx3, hx4⟩, hR6, hF6⟩
  obtain ⟨xk, xn, xi, ad, pt, tx, ax⟩ := x
  simp only at hx1 hx2 hx3
  obtain rfl := hx1
  obtain rfl := hx2.symm
  obtain rfl := hx3
  unfold Ev.val
  simp only
  have hown6 := hF6.owns (unhide HOwn) (by decide) (by decide) (by decide)
  have hB6 := (unhide HB5).trans (hF6.below hs5)
  have hs6 : N ≤ w6.heap.size := by have := hB6.size; omega
  have hE := heap_alloc_new w6 (.cells #[.int .i64 1, .string nd, .int .i64 (v2 : Nat), .string ad, .int .i64 pt, .string tx, .string ax] 63)
  have hbb := (Below.refl w6.heap.size w6).alloc (Nat.le_refl _) (.cells #[.int .i64 1, .string nd, .int .i64 (v2 : Nat), .string ad, .int .i64 pt, .string tx, .string ax] 63)
  have hX4 : ad.size ≤ 16 ∧ tx.size ≤ 60 ∧ ax.size ≤ 15 := by
    refine ⟨?_, hx4.2.2.2.2, ?_⟩
    · rcases hx4.2.1 with q | q
      · have q' : ad.size = 4 := q
        omega
      · have q' : ad.size = 16 := q
        omega
    · rcases hx4.1 with q | q
      · have q' : ax = ⟨#[]⟩ := q
        rw [q']; show (0 : Nat) ≤ 15; omega
      · exact q.2.2
  have HX4 := hide hX4
  have hG1 : goodE (⟨1, nd, (v2 : Int), ad, pt, tx, ax⟩ : Ev) := ⟨unhide HND, Int.natCast_nonneg _, by show (v2 : Int) ≤ 2147483647; omega, .inr ⟨rfl, hx4⟩⟩
  have HG1 := hide hG1
  clear KA HB5 HOwn hs5 hR6 hF6 hX4 hG1 hx4
  by_cases ck : kk = 0
  · subst ck
    have hB7 := hB6.trans (hbb.mono hs6)
    have hbb8 := (Below.refl w6.heap.size w6).alloc (Nat.le_refl _) (.cells #[.int .i64 2, .string nd, .int .i64 (v2 : Nat), .string ⟨#[]⟩, .int .i64 0, .string ⟨#[]⟩, .string ⟨#[]⟩] 63)
    obtain ⟨⟨x0, x1, x2, x3, x4, x5, x6⟩, y0, y1, y2, y3, y4, y5, y6⟩ := cells7 hE
    have l7 := blk_lt hE
    have hE8 := heap_alloc_new w6 (.cells #[.int .i64 2, .string nd, .int .i64 (v2 : Nat), .string ⟨#[]⟩, .int .i64 0, .string ⟨#[]⟩, .string ⟨#[]⟩] 63)
    have hown8 := owns_below hown6 hbb8
    have hB8 := hB6.trans (hbb8.mono hs6)
    have HG := hide (show goodE (⟨2, nd, (v2 : Int), ⟨#[]⟩, 0, ⟨#[]⟩, ⟨#[]⟩⟩ : Ev) from ⟨unhide HND, Int.natCast_nonneg _, by show (v2 : Int) ≤ 2147483647; omega, .inl rfl⟩)
    have HX := hide (show ((⟨2, nd, (v2 : Int), ⟨#[]⟩, 0, ⟨#[]⟩, ⟨#[]⟩⟩ : Ev)).addr.size ≤ 16 ∧ ((⟨2, nd, (v2 : Int), ⟨#[]⟩, 0, ⟨#[]⟩, ⟨#[]⟩⟩ : Ev)).text.size ≤ 60 ∧ ((⟨2, nd, (v2 : Int), ⟨#[]⟩, 0, ⟨#[]⟩, ⟨#[]⟩⟩ : Ev)).alias.size ≤ 15 from ⟨Nat.zero_le _, Nat.zero_le _, Nat.zero_le _⟩)
    have HOl := hide (unhide HOld (⟨2, nd, (v2 : Int), ⟨#[]⟩, 0, ⟨#[]⟩, ⟨#[]⟩⟩ : Ev) rfl rfl)
    have T8 := hide (And.intro hE8 (And.intro hown8 hB8))
    clear hE8 hown8 hB8 hbb8 hbb hB6 hown6 hE hB7
    go_upto_region 11 with fail
    clear x0 x1 x2 x3 x4 x5 x6 y0 y1 y2 y3 y4 y5 y6 l7
    generalize w6.alloc (.cells #[.int .i64 2, .string nd, .int .i64 (v2 : Nat), .string ⟨#[]⟩, .int .i64 0, .string ⟨#[]⟩, .string ⟨#[]⟩] 63) = W8 at *
    obtain ⟨hE8, hown8, hB8⟩ := unhide T8
    clear T8
    generalize w6.heap.size = E at *
    have KM := hide (among_k L (⟨2, nd, (v2 : Int), ⟨#[]⟩, 0, ⟨#[]⟩, ⟨#[]⟩⟩ : Ev) v a2 L.length c2 w4.heap.size W8 hown8 rfl (by omega) h1 h2)
    obtain ⟨⟨u0, u1, u2, u3, u4, u5, u6⟩, _⟩ := cells7 hE8
    have lE := blk_lt hE8
    have HE8 := hide hE8
    have HB8 := hide hB8
    have hs8 : N ≤ W8.heap.size := by have := hB8.size; omega
    clear hE8 hB8 hown8
    unfold Ev.val at KM
    go_wp2_with fail
    refine (unhide KM).mono ?_
    rintro e w9 ⟨k, hk, a3, c3, rfl, hown9, hb9⟩
    have hlen : (L.take k ++ (⟨2, nd, (v2 : Int), ⟨#[]⟩, 0, ⟨#[]⟩, ⟨#[]⟩⟩ : Ev) :: L.drop k).length ≤ 16777216 := by rw [List.length_append, List.length_cons, List.length_take, List.length_drop]; omega
    have KR := hide (records_z (L.take k ++ (⟨2, nd, (v2 : Int), ⟨#[]⟩, 0, ⟨#[]⟩, ⟨#[]⟩⟩ : Ev) :: L.drop k) a3 c3 w9.heap.size w9 (own_atN hown9) (Nat.le_refl _) hlen (put_sized (unhide HSz) (unhide HG) (unhide HX) k))
    have hB9 := (unhide HB8).trans (hb9.mono hs8)
    have hE9 := (hb9.block E lE).trans (unhide HE8)
    have hs9 : N ≤ w9.heap.size := by have := hB9.size; omega
    have lE9 := blk_lt hE9
    have HB9 := hide hB9
    have HE9 := hide hE9
    have key := fun a c w h => present_k L (⟨2, nd, (v2 : Int), ⟨#[]⟩, 0, ⟨#[]⟩, ⟨#[]⟩⟩ : Ev) k (unhide HG) (unhide HOl) hll a c w h
    unfold Ev.val at key
    simp only at key
    generalize L.take k ++ (⟨2, nd, (v2 : Int), ⟨#[]⟩, 0, ⟨#[]⟩, ⟨#[]⟩⟩ : Ev) :: L.drop k = LL at *
    have KP := hide key
    clear hown9 hb9 hB9 hE9 KM u0 u1 u2 u3 u4 u5 u6 lE HE8 HB8 hs8 key hlen
    go_wp2_with fail
    refine (unhide KR).mono ?_
    rintro e w10 ⟨a4, c4, rfl, hown10, hb10⟩
    have hB10 := (unhide HB9).trans (hb10.mono hs9)
    have hE10 := (hb10.block E lE9).trans (unhide HE9)
    have hs10 : N ≤ w10.heap.size := by have := hB10.size; omega
    obtain ⟨⟨u0, u1, u2, u3, u4, u5, u6⟩, _⟩ := cells7 hE10
    have lE10 := blk_lt hE10
    have KQ := hide (unhide KP a4 c4 w10 (own_atN hown10))
    have HB10 := hide hB10
    clear hown10 hb10 hB10 hE10 KR KP HB9 HE9 lE9 hs9
    go_wp2_with fail
    refine (unhide KQ).mono ?_
    rintro e w11 ⟨rfl, hb11⟩
    have HB11 := hide ((unhide HB10).trans (hb11.mono hs10))
    clear hb11 KQ HB10
    go_wp2_with fail
    go_ret
    exact ⟨rfl, unhide HB11⟩
  · have hB8 := hB6.trans (hbb.mono hs6)
    have hown8 := owns_below hown6 hbb
    have hE8 := hE
    have HG := HG1
    have HX : Hid (((⟨1, nd, (v2 : Int), ad, pt, tx, ax⟩ : Ev)).addr.size ≤ 16 ∧ ((⟨1, nd, (v2 : Int), ad, pt, tx, ax⟩ : Ev)).text.size ≤ 60 ∧ ((⟨1, nd, (v2 : Int), ad, pt, tx, ax⟩ : Ev)).alias.size ≤ 15) := HX4
    have HOl := hide (unhide HOld (⟨1, nd, (v2 : Int), ad, pt, tx, ax⟩ : Ev) rfl rfl)
    have fk : ((kk : Int) == 0) = false := beq_eq_false_iff_ne.2 (by omega)
    clear hbb hE hown6 hB6
    go_upto_region 11 with fail
    generalize w6.alloc (.cells #[.int .i64 1, .string nd, .int .i64 (v2 : Nat), .string ad, .int .i64 pt, .string tx, .string ax] 63) = W8 at *
    generalize w6.heap.size = E at *
    have KM := hide (among_k L (⟨1, nd, (v2 : Int), ad, pt, tx, ax⟩ : Ev) v a2 L.length c2 w4.heap.size W8 hown8 rfl (by omega) h1 h2)
    obtain ⟨⟨u0, u1, u2, u3, u4, u5, u6⟩, _⟩ := cells7 hE8
    have lE := blk_lt hE8
    have HE8 := hide hE8
    have HB8 := hide hB8
    have hs8 : N ≤ W8.heap.size := by have := hB8.size; omega
    clear hE8 hB8 hown8
    unfold Ev.val at KM
    go_wp2_with fail
    refine (unhide KM).mono ?_
    rintro e w9 ⟨k, hk, a3, c3, rfl, hown9, hb9⟩
    have hlen : (L.take k ++ (⟨1, nd, (v2 : Int), ad, pt, tx, ax⟩ : Ev) :: L.drop k).length ≤ 16777216 := by rw [List.length_append, List.length_cons, List.length_take, List.length_drop]; omega
    have KR := hide (records_z (L.take k ++ (⟨1, nd, (v2 : Int), ad, pt, tx, ax⟩ : Ev) :: L.drop k) a3 c3 w9.heap.size w9 (own_atN hown9) (Nat.le_refl _) hlen (put_sized (unhide HSz) (unhide HG) (unhide HX) k))
    have hB9 := (unhide HB8).trans (hb9.mono hs8)
    have hE9 := (hb9.block E lE).trans (unhide HE8)
    have hs9 : N ≤ w9.heap.size := by have := hB9.size; omega
    have lE9 := blk_lt hE9
    have HB9 := hide hB9
    have HE9 := hide hE9
    have key := fun a c w h => present_k L (⟨1, nd, (v2 : Int), ad, pt, tx, ax⟩ : Ev) k (unhide HG) (unhide HOl) hll a c w h
    unfold Ev.val at key
    simp only at key
    generalize L.take k ++ (⟨1, nd, (v2 : Int), ad, pt, tx, ax⟩ : Ev) :: L.drop k = LL at *
    have KP := hide key
    clear hown9 hb9 hB9 hE9 KM u0 u1 u2 u3 u4 u5 u6 lE HE8 HB8 hs8 key hlen
    go_wp2_with fail
    refine (unhide KR).mono ?_
    rintro e w10 ⟨a4, c4, rfl, hown10, hb10⟩
    have hB10 := (unhide HB9).trans (hb10.mono hs9)
    have hE10 := (hb10.block E lE9).trans (unhide HE9)
    have hs10 : N ≤ w10.heap.size := by have := hB10.size; omega
    obtain ⟨⟨u0, u1, u2, u3, u4, u5, u6⟩, _⟩ := cells7 hE10
    have lE10 := blk_lt hE10
    have KQ := hide (unhide KP a4 c4 w10 (own_atN hown10))
    have HB10 := hide hB10
    clear hown10 hb10 hB10 hE10 KR KP HB9 HE9 lE9 hs9
    go_wp2_with fail
    refine (unhide KQ).mono ?_
    rintro e w11 ⟨rfl, hb11⟩
    have HB11 := hide ((unhide HB10).trans (hb11.mono hs10))
    clear hb11 KQ HB10
    go_wp2_with fail
    go_ret
    exact ⟨rfl, unhide HB11⟩

end Go.Proofs.Ytdhobdmhnocbgaa
