/-
  Walks over the document's own answer: the serial; names and records of the zone.
-/
/-
  Walks over the document's own answer: to which node an alias belongs; the records of the aliases.
-/
import Derived.Test.YtdhobdmhnocbgaaGreatSZwD
import Derived.Test.YtdhobdmhnocbgaaGreatSTxE
import Derived.Test.YtdhobdmhnocbgaaGreatSMwO
namespace Go.Proofs.YtdhobdmhnocbgaaGreat
open Go.RowKit Zr

theorem ser_step (l : List Ev) (j : Nat) (h : j < l.length) : ((goodE l[j] ∧ serTo l j < l[j].inc) → serTo l (j + 1) = l[j].inc) ∧ (¬ (goodE l[j] ∧ serTo l j < l[j].inc) → serTo l (j + 1) = serTo l j) := by
  have e := ev_at h
  constructor
  · intro hc
    conv => lhs; unfold serTo
    rw [e, if_pos hc]
  · intro hc
    conv => lhs; unfold serTo
    rw [e, if_neg hc]

set_option maxRecDepth 100000 in
set_option maxHeartbeats 2000000 in
theorem serial_any (l : List Ev) (a : Option Addr) (c N : Nat) (w : World) (hrow : RowAt w N a (evC l)) (hN : N ≤ w.heap.size) (hl : l.length ≤ 33554432) (hz : EvSized l) :
    Calls Tryz.prog 53 #[.slice a l.length c] w fun e w' => e = .returned (.int .i64 (serTo l l.length)) ∧ Below w.heap.size w w' := by
  have HRow := hide hrow
  have HZ := hide hz
  have HT := hide (ser_step l)
  clear hrow hz
  obtain ⟨M, hM⟩ : ∃ M, w.heap.size = M := ⟨_, rfl⟩
  have HM := hide hM
  have hs0 : M ≤ w.heap.size := by omega
  rw [hM] at hN
  clear hM
  go_enter Tryz.func53, Tryz.ntmps53
  go_wp2_with fail
  go_loopw [3, 4] (fun v vi w' => ∃ (j : Nat) (m : Int), j ≤ l.length ∧ vi = .int .i64 j ∧ v = .int .i64 m ∧ Hid (serTo l j = m) ∧ Hid (Below M w w') ∧ M ≤ w'.heap.size) (fun _ vi _ => l.length - (intOf vi).toNat)
  case atStart => exact ⟨0, 0, Nat.zero_le _, rfl, rfl, hide rfl, hide (Below.refl _ _), hs0⟩
  case round =>
    obtain ⟨j, m, hj, rfl, rfl, HS, HB, hs⟩ := hrel
    by_cases cj : j < l.length
    · obtain ⟨b, o, rfl, hb, x0, x1, x2, x3, x4, x5, x6⟩ := row_e ((unhide HRow).below ((unhide HB).mono hN)) j cj
      obtain ⟨s1, s2, s3, s4⟩ := unhide HZ j cj
      obtain ⟨t1, t2⟩ := unhide HT j cj
      rw [unhide HS] at t1 t2
      have key := fun W => good_any l[j] W (by omega) (by omega) (by omega) (by omega)
      have T1 := hide t1
      have T2 := hide t2
      have Key := hide key
      clear t1 t2 key s1 s2 s3 s4
      obtain ⟨k, hk⟩ : ∃ k, l[j] = k := ⟨_, rfl⟩
      rw [hk] at T1 T2 Key x0 x1 x2 x3 x4 x5 x6
      clear hk
      unfold Ev.val at Key
      generalize goodE k = G at *
      obtain ⟨kd, nd, ic, ad, pt, tx, al⟩ := k
      simp only at x0 x1 x2 x3 x4 x5 x6 Key T1 T2
      go_wp2_with fail
      refine (unhide Key _).mono ?_
      rintro e w1 ⟨⟨bb, rfl, hbb⟩, hb1⟩
      have y2 := (hb1.cell (p := ⟨b, o + j * 7 + 2, none⟩) (by show b < _; omega)).trans x2
      have HB1 := hide ((unhide HB).trans (hb1.mono hs))
      have hs1 : M ≤ w1.heap.size := Nat.le_trans hs hb1.size
      have HBB := hide hbb
      clear hbb hb1 x0 x1 x2 x3 x4 x5 x6 HB Key hs
      by_cases cc : bb = true ∧ m < ic
      · obtain ⟨rfl, cm⟩ := cc
        have HT1 := hide (unhide T1 ⟨(unhide HBB).1 (by simp), cm⟩)
        clear T1 T2
        go_wp2_with fail
        go_roundw
        case rel => exact ⟨j + 1, _, by omega, by go_num, rfl, HT1, HB1, hs1⟩
        case measure => simp [intOf]; omega
      · have HT2 := hide (unhide T2 (fun h => cc ⟨(unhide HBB).2 h.1, h.2⟩))
        have hcc : bb = false ∨ (bb = true ∧ ic ≤ m) := by
          cases bb
          · exact .inl rfl
          · exact .inr ⟨rfl, Int.not_lt.1 fun h => cc ⟨rfl, h⟩⟩
        clear T1 T2 cc
        rcases hcc with rfl | ⟨rfl, e9⟩
        all_goals
          go_wp2_with fail
          go_roundw
          case rel => exact ⟨j + 1, _, by omega, by go_num, rfl, HT2, HB1, hs1⟩
          case measure => simp [intOf]; omega
    · have ej : j = l.length := by omega
      subst ej
      go_wp2_with fail
      go_ret
      exact ⟨by rw [unhide HS]; rfl, by rw [unhide HM]; exact unhide HB⟩

theorem hiS_one (n : Nat) (h : n < 256) : hiS n 1 = one n := by
  have e : n / 256 ^ 0 % 256 = n := by simp; omega
  show ⟨#[UInt8.ofNat (n / 256 ^ 0 % 256)]⟩ ++ hiS n 0 = _
  rw [e]
  rfl

theorem high1 (v : Int) (n : Nat) (w : World) (hv : v = (n : Int)) (hn : n < 256) :
    Calls Tryz.prog 48 #[.int .i64 v, .int .i64 1] w fun e w' => e = .returned (.string (one n)) ∧ Below w.heap.size w w' :=
  high_at v 1 n (one n) w hv (by omega) (by omega) (hiS_one n hn)

set_option maxRecDepth 100000 in
set_option maxHeartbeats 2000000 in
theorem under_any (s : ByteArray) (w : World) (h : s.size < 256) : Calls Tryz.prog 55 #[.string s] w fun e w' => e = .returned (.string (underP s)) ∧ Below w.heap.size w w' := by
  obtain ⟨r, hr⟩ : ∃ r, underP s = r := ⟨_, rfl⟩
  have hr2 : one s.size ++ s ++ originB = r := hr
  rw [hr]
  have key := fun W => high1 (s.size : Int) s.size W rfl h
  have h1 : (one s.size).size = 1 := rfl
  generalize one s.size = y at *
  have hz : (y ++ s).size = 1 + s.size := by rw [ByteArray.size_append]; omega
  have HR := hide hr2
  have Key := hide key
  clear hr hr2 key
  go_enter Tryz.func55, Tryz.ntmps55
  go_wp2_with fail
  refine (unhide Key _).mono ?_
  rintro e w1 ⟨rfl, hb1⟩
  go_wp2_with fail
  go_ret
  exact ⟨by rw [← unhide HR]; rfl, hb1⟩

set_option maxHeartbeats 400000 in
theorem made_any (nm dt : ByteArray) (t : Int) (w : World) : Calls Tryz.prog 54 #[.string nm, .int .i64 t, .string dt] w fun e w' => e = .returned (rValI (madeR nm t dt)) ∧ Below w.heap.size w w' := by
  go_enter Tryz.func54, Tryz.ntmps54
  go_wp2_with fail
  refine bodyPost_ret (v := .agg #[.string nm, .int .i64 t, .int .i64 1, .int .i64 30, .string dt]) (by simp [results, Tryz.results54, go_sem]) rfl ⟨rfl, ?_⟩
  first | exact (Below.refl _ _).alloc (Nat.le_refl _) _ | exact Below.refl _ _

end Go.Proofs.YtdhobdmhnocbgaaGreat

namespace Go.Proofs.YtdhobdmhnocbgaaGreat
open Go.RowKit Zr

theorem bear_step (up : List Ev) (al : ByteArray) (t : Nat) (h : t < up.length) : ((up[up.length - 1 - t]'(by omega)).alias = al → bearTo up al (t + 1) = (up[up.length - 1 - t]'(by omega)).node) ∧ ((up[up.length - 1 - t]'(by omega)).alias ≠ al → bearTo up al (t + 1) = bearTo up al t) := by
  have e := ev_at (l := up) (i := up.length - 1 - t) (by omega)
  constructor
  · intro hc
    conv => lhs; unfold bearTo
    rw [e, if_pos hc]
  · intro hc
    conv => lhs; unfold bearTo
    rw [e, if_neg hc]

set_option maxRecDepth 100000 in
set_option maxHeartbeats 2000000 in
theorem bearer_any (up : List Ev) (al0 : ByteArray) (a : Option Addr) (c N : Nat) (w : World) (hrow : RowAt w N a (evC up)) (hl : up.length ≤ 33554432) :
    Calls Tryz.prog 92 #[.slice a up.length c, .string al0] w fun e w' => e = .returned (.string (bearP up al0)) ∧ w' = w := by
  have HRow := hide hrow
  have HT := hide (bear_step up al0)
  clear hrow
  obtain ⟨R, hR⟩ : ∃ R, bearP up al0 = R := ⟨_, rfl⟩
  have hR' := hR
  unfold bearP at hR'
  rw [hR]
  have HR := hide hR'
  clear hR hR'
  go_enter Tryz.func92, Tryz.ntmps92
  go_wp2_with fail
  go_loop [5, 6] (fun v vi => ∃ (t : Nat) (m : ByteArray), t ≤ up.length ∧ vi = .int .i64 ((up.length : Int) - 1 - t) ∧ v = .string m ∧ Hid (bearTo up al0 t = m)) (fun _ vi => (intOf vi + 1).toNat)
  case atStart => exact ⟨0, _, Nat.zero_le _, by go_num, rfl, hide rfl⟩
  case round =>
    obtain ⟨t, m, ht, rfl, rfl, HS⟩ := hrel
    by_cases ct : t < up.length
    · obtain ⟨t1, t2⟩ := unhide HT t ct
      rw [unhide HS] at t2
      obtain ⟨b, o, rfl, hb, x0, x1, x2, x3, x4, x5, x6⟩ := row_e (unhide HRow) (up.length - 1 - t) (by omega)
      obtain ⟨i, hi⟩ : ∃ i, up.length - 1 - t = i := ⟨_, rfl⟩
      have hiI : (up.length : Int) - 1 - t = (i : Int) := by omega
      have T1 := hide t1
      have T2 := hide t2
      clear t1 t2
      generalize hk : up[up.length - 1 - t]'(by omega) = k at *
      rw [hi] at x0 x1 x2 x3 x4 x5 x6
      simp only [hiI]
      clear hk hi
      have HiI := hide hiI
      have hil : i < up.length := by omega
      clear hiI
      obtain ⟨kd, nd, ic, ad, pt, tx, al⟩ := k
      simp only at x0 x1 x2 x3 x4 x5 x6 T1 T2
      by_cases ca : al = al0
      · have f1 := strs_eq ca
        have HT1 := hide (unhide T1 ca)
        clear ca T1 T2
        go_wp2_with fail
        go_round
        case rel => exact ⟨t + 1, _, by omega, by have := unhide HiI; go_num, rfl, HT1⟩
        case measure => simp [intOf]
      · have f1 := strs_ne ca
        have HT2 := hide (unhide T2 ca)
        clear ca T1 T2
        go_wp2_with fail
        go_round
        case rel => exact ⟨t + 1, _, by omega, by have := unhide HiI; go_num, rfl, HT2⟩
        case measure => simp [intOf]
    · have et : t = up.length := by omega
      subst et
      have hd : decide ((0 : Int) ≤ (up.length : Int) - 1 - up.length) = false := decide_eq_false (by omega)
      have hi9 : (up.length : Int) - 1 - up.length = -1 := by omega
      simp only [hi9]
      clear hd hi9
      go_wp2_with fail
      go_loop [7] (fun vi => ∃ (j : Nat), j ≤ up.length ∧ vi = .int .i64 j ∧ Hid (∀ k (h : k < up.length), k < j → up[k].node ≠ al0)) (fun vi => up.length - (intOf vi).toNat)
      case atStart => exact ⟨0, Nat.zero_le _, rfl, hide fun k _ hk => by omega⟩
      case round =>
        obtain ⟨j, hj, rfl, HNo⟩ := hrel
        by_cases cj : j < up.length
        · obtain ⟨b, o, rfl, hb, x0, x1, x2, x3, x4, x5, x6⟩ := row_e (unhide HRow) j cj
          by_cases cn : up[j].node = al0
          · have hr : R = ⟨#[]⟩ := by
              have := unhide HR
              rw [if_pos ⟨j, cj, by rw [ev_at cj]; exact cn⟩] at this
              exact this.symm
            have HR2 := hide hr
            have f1 := strs_eq cn
            clear hr cn
            generalize up[j].node = un at *
            go_wp2_with fail
            go_ret
            exact ⟨by rw [unhide HR2]; rfl, rfl⟩
          · have HNo2 : Hid (∀ k (h : k < up.length), k < j + 1 → up[k].node ≠ al0) := hide fun k hk hkj => by
              by_cases e : k = j
              · subst e; exact cn
              · exact unhide HNo k hk (by omega)
            have f1 := strs_ne cn
            clear cn
            generalize up[j].node = un at *
            go_wp2_with fail
            go_round
            case rel => exact ⟨j + 1, by omega, by go_num, HNo2⟩
            case measure => simp [intOf]; omega
        · have hr : R = m := by
            have := unhide HR
            rw [if_neg, unhide HS] at this
            · exact this.symm
            · rintro ⟨k, hk, he⟩
              rw [ev_at hk] at he
              exact unhide HNo k hk (by omega) he
          have HR2 := hide hr
          clear hr
          go_wp2_with fail
          go_ret
          exact ⟨by rw [unhide HR2]; rfl, rfl⟩

theorem least_step (up : List Ev) (last : ByteArray) (i : Nat) (h : i < up.length) : ((ltS last up[i].alias = true ∧ (leastTo up last i = ⟨#[]⟩ ∨ ltS up[i].alias (leastTo up last i) = true)) → leastTo up last (i + 1) = up[i].alias) ∧ (¬ (ltS last up[i].alias = true ∧ (leastTo up last i = ⟨#[]⟩ ∨ ltS up[i].alias (leastTo up last i) = true)) → leastTo up last (i + 1) = leastTo up last i) := by
  have e := ev_at h
  constructor
  · intro hc
    conv => lhs; unfold leastTo
    rw [e, if_pos hc]
  · intro hc
    conv => lhs; unfold leastTo
    rw [e, if_neg hc]

theorem ali_none {up : List Ev} {k : Nat} {O : List RI} {last : ByteArray} (h : aliTo up k = (O, last)) (hb : leastTo up last up.length = ⟨#[]⟩) : aliTo up (k + 1) = (O, last) := by
  show aliStep up (aliTo up k) = _
  rw [h]
  unfold aliStep
  simp only
  rw [if_pos hb]
theorem ali_some {up : List Ev} {k : Nat} {O : List RI} {last b : ByteArray} (h : aliTo up k = (O, last)) (hb : leastTo up last up.length = b) (hne : b ≠ ⟨#[]⟩) : (bearP up b = ⟨#[]⟩ → aliTo up (k + 1) = (O, b)) ∧ (bearP up b ≠ ⟨#[]⟩ → aliTo up (k + 1) = (O ++ [madeR (underP b) 5 (underP (bearP up b))], b)) := by
  have e : aliTo up (k + 1) = aliStep up (O, last) := by show aliStep up (aliTo up k) = _; rw [h]
  rw [e]
  unfold aliStep
  simp only
  rw [hb, if_neg hne]
  refine ⟨fun hc => ?_, fun hc => ?_⟩
  · rw [if_pos hc]
  · rw [if_neg hc]

set_option maxRecDepth 100000 in
set_option maxHeartbeats 4000000 in
theorem refAliases_any (up : List Ev) (a : Option Addr) (c N : Nat) (w : World) (hrow : RowAt w N a (evC up)) (hN : N ≤ w.heap.size) (hl : up.length ≤ 33554432) (hsz : ∀ i (h : i < up.length), up[i].node.size ≤ 15 ∧ up[i].alias.size ≤ 15) :
    Calls Tryz.prog 56 #[.slice a up.length c] w fun e w' => RecsOut w (aliTo up up.length).1 e w' := by
  have HRow := hide hrow
  have HSz := hide hsz
  have HT := hide (least_step up)
  obtain ⟨i0, hi, hz0, hz1, hz2⟩ := info_parts Tryz.info42
  have Hi := hide hi
  have Hz0 := hide hz0
  have Hz1 := hide hz1
  have Hz2 := hide hz2
  clear hi hz0 hz1 hz2 hrow hsz
  obtain ⟨M, hM⟩ : ∃ M, w.heap.size = M := ⟨_, rfl⟩
  have HM := hide hM
  have hs0 : M ≤ w.heap.size := by omega
  rw [hM] at hN
  clear hM
  go_enter Tryz.func56, Tryz.ntmps56
  go_wp2_with fail
  go_loopg [3, 4, 5] (up.length + 1) (fun g vo vl vk w' => ∃ (k m : Nat) (O : List RI) (last : ByteArray) (ao : Option Addr) (co : Nat), vk = .int .i64 k ∧ k ≤ up.length ∧ g = up.length + 1 - k ∧ vo = .slice ao m co ∧ m ≤ k ∧ vl = .string last ∧ Hid (O.length = m) ∧ Hid (aliTo up k = (O, last)) ∧ Hid (w'.ownsRow M 42 5 (.slice ao m co) m (rcI O)) ∧ Hid (Below M w w') ∧ M ≤ w'.heap.size)
  case atStart => exact ⟨0, 0, [], ⟨#[]⟩, none, 0, rfl, Nat.zero_le _, rfl, rfl, Nat.le_refl _, rfl, hide rfl, hide rfl, hide (World.ownsRow_nil _ _ _ _), hide (Below.refl _ _), hs0⟩
  case round =>
    obtain ⟨k, m, O, last, ao, co, rfl, hk, rfl, rfl, hm, rfl, HOl, HU, HO, HB, hs⟩ := hrel
    by_cases ck : k < up.length
    · have HrA := hide ((unhide HRow).below ((unhide HB).mono hN))
      have HT1 := hide (unhide HT last)
      go_wp2_with fail
      go_loop [6, 7] (fun vb vi => ∃ (i : Nat), i ≤ up.length ∧ vi = .int .i64 i ∧ vb = .string (leastTo up last i)) (fun _ vi => up.length - (intOf vi).toNat)
      case atStart => exact ⟨0, Nat.zero_le _, rfl, rfl⟩
      case round =>
        obtain ⟨i, hi, rfl, rfl⟩ := hrel
        by_cases ci : i < up.length
        · obtain ⟨b, o, rfl, hb, x0, x1, x2, x3, x4, x5, x6⟩ := row_e (unhide HrA) i ci
          obtain ⟨st1, st2⟩ := unhide HT1 i ci
          have ST1 := hide st1
          have ST2 := hide st2
          clear st1 st2
          generalize leastTo up last i = be at *
          generalize up[i] = x at *
          obtain ⟨kd, nd, ic, ad, pt, tx, al⟩ := x
          simp only at x0 x1 x2 x3 x4 x5 x6 ST1 ST2
          cases hq : ltS last al with
          | true =>
            obtain ⟨f1, f2⟩ := nleS hq
            by_cases cb : be = ⟨#[]⟩
            · have e0 : be.toList.isEmpty = true := (empty_iff be).2 cb
              have HSt := hide (unhide ST1 ⟨hq, .inl cb⟩)
              clear ST1 ST2 hq cb
              go_wp2_with fail
              refine ⟨⟨i + 1, by omega, by go_num, by rw [unhide HSt]⟩, by simp [intOf]; omega⟩
            · have e0 : be.toList.isEmpty = false := by
                cases e : be.toList.isEmpty with
                | false => rfl
                | true => exact absurd ((empty_iff be).1 e) cb
              cases hq2 : ltS al be with
              | true =>
                have f3 : Op.bytesLess al.toList be.toList = true := hq2
                have HSt := hide (unhide ST1 ⟨hq, .inr hq2⟩)
                clear ST1 ST2 hq hq2 cb
                go_wp2_with fail
                refine ⟨⟨i + 1, by omega, by go_num, by rw [unhide HSt]⟩, by simp [intOf]; omega⟩
              | false =>
                have f3 : Op.bytesLess al.toList be.toList = false := hq2
                have HSt := hide (unhide ST2 (fun h => by rcases h.2 with q | q; exact cb q; rw [hq2] at q; cases q))
                clear ST1 ST2 hq hq2 cb
                go_wp2_with fail
                refine ⟨⟨i + 1, by omega, by go_num, by rw [unhide HSt]⟩, by simp [intOf]; omega⟩
          | false =>
            have HSt := hide (unhide ST2 (fun h => by rw [hq] at h; cases h.1))
            have hle := leS hq
            clear ST1 ST2 hq
            rcases hle with f1 | ⟨f1, f2⟩
            · go_wp2_with fail
              refine ⟨⟨i + 1, by omega, by go_num, by rw [unhide HSt]⟩, by simp [intOf]; omega⟩
            · go_wp2_with fail
              refine ⟨⟨i + 1, by omega, by go_num, by rw [unhide HSt]⟩, by simp [intOf]; omega⟩
        · have ei : i = up.length := by omega
          subst ei
          obtain ⟨be, hbe⟩ : ∃ be, leastTo up last up.length = be := ⟨_, rfl⟩
          rw [hbe]
          by_cases cb : be = ⟨#[]⟩
          · have e0 : be.toList.isEmpty = true := (empty_iff be).2 cb
            have HSt := hide (ali_none (unhide HU) (hbe.trans cb))
            clear cb hbe
            go_wp2_with fail
            go_roundg (up.length + 1 - (k + 1))
            case measure => omega
            case rel => exact ⟨k + 1, m, O, last, ao, co, by go_num, by omega, rfl, rfl, by omega, rfl, HOl, HSt, HO, HB, hs⟩
          · have e0 : be.toList.isEmpty = false := by
              cases e : be.toList.isEmpty with
              | false => rfl
              | true => exact absurd ((empty_iff be).1 e) cb
            obtain ⟨s1, s2⟩ := ali_some (unhide HU) hbe cb
            have hbz : be.size ≤ 15 := by
              obtain ⟨⟨q, hq, eq⟩, _, _⟩ := least_some up.length (by rw [hbe]; exact cb)
              rw [hbe, ev_at hq] at eq
              rw [← eq]
              exact (unhide HSz q hq).2
            have hnz : (bearP up be).size ≤ 15 := by
              unfold bearP
              split
              · exact Nat.zero_le _
              · have : ∀ t, t ≤ up.length → (bearTo up be t).size ≤ 15 := by
                  intro t
                  induction t with
                  | zero => intro _; exact Nat.zero_le _
                  | succ t ih =>
                    intro ht
                    unfold bearTo
                    split
                    · rw [ev_at (by omega)]; exact (unhide HSz _ (by omega)).1
                    · exact ih (by omega)
                exact this _ (Nat.le_refl _)
            have S1 := hide s1
            have S2 := hide s2
            have key := bearer_any up be a c N wr (unhide HrA) hl
            generalize bearP up be = nd at *
            have Key := hide key
            clear s1 s2 key hbe cb
            go_wp2_with fail
            refine (unhide Key).mono ?_
            rintro e w1 ⟨rfl, rfl⟩
            by_cases cn : nd = ⟨#[]⟩
            · have e1 : nd.toList.isEmpty = true := (empty_iff nd).2 cn
              have HSt := hide (unhide S1 cn)
              clear cn S1 S2
              go_wp2_with fail
              go_roundg (up.length + 1 - (k + 1))
              case measure => omega
              case rel => exact ⟨k + 1, m, O, be, ao, co, by go_num, by omega, rfl, rfl, by omega, rfl, HOl, HSt, HO, HB, hs⟩
            · have e1 : nd.toList.isEmpty = false := by
                cases e : nd.toList.isEmpty with
                | false => rfl
                | true => exact absurd ((empty_iff nd).1 e) cn
              have HSt := hide (unhide S2 cn)
              clear cn S1 S2
              have k1 := fun W => under_any be W (by omega)
              have k2 := fun W => under_any nd W (by omega)
              generalize underP be = ub at *
              generalize underP nd = un at *
              have K1 := hide k1
              have K2 := hide k2
              clear k1 k2
              go_wp2_with fail
              refine (unhide K1 _).mono ?_
              rintro e w2 ⟨rfl, hb2⟩
              have HO2 := hide (owns_below (unhide HO) hb2)
              have HB2 := hide ((unhide HB).trans (hb2.mono hs))
              have hs2 : M ≤ w2.heap.size := Nat.le_trans hs hb2.size
              clear hb2
              go_wp2_with fail
              refine (unhide K2 _).mono ?_
              rintro e w3 ⟨rfl, hb3⟩
              have HO3 := hide (owns_below (unhide HO2) hb3)
              have HB3 := hide ((unhide HB2).trans (hb3.mono hs2))
              have hs3 : M ≤ w3.heap.size := Nat.le_trans hs2 hb3.size
              clear hb3
              go_wp2_with fail
              refine (made_any ub un 5 _).mono ?_
              rintro e w4 ⟨rfl, hb4⟩
              have HO4 := hide (owns_below (unhide HO3) hb4)
              have HB4 := hide ((unhide HB3).trans (hb4.mono hs3))
              have hs4 : M ≤ w4.heap.size := Nat.le_trans hs3 hb4.size
              clear hb4
              unfold rValI madeR
              simp only
              go_wp2_with (at_builtin; refine wpList_append_row _ rfl _ _ 30 30 rfl M 42 i0 (.agg #[.string ⟨#[]⟩, .int .i64 0, .int .i64 0, .int .i64 0, .string ⟨#[]⟩]) 5 56 Tryz.underlying30 (unhide Hi) (unhide Hz0) (unhide Hz1) (unhide Hz2) rfl (.slice ao m co) m (rcI O) (by rfl) ((unhide HO4).alloc _) (.slice (some ⟨w4.heap.size, 0, none⟩) 1 1) 1 [.string ub, .int .i64 5, .int .i64 1, .int .i64 30, .string un] (by rfl) (Src.ofSlice _ Tryz.underlying30 ⟨w4.heap.size, 0, none⟩ 1 1 _ rfl (cell_five_new _ _ _ _ _ _ _ _ rfl) one5) (by unfold maxLen; omega) (by omega) (by simp; omega) ?_; intro a5 e5 w5 hown5 hgrow5 hat5)
              go_roundg (up.length + 1 - (k + 1))
              case measure => omega
              case rel =>
                have hA := (Below.refl M w4).alloc hs4 (.cells #[.string ub, .int .i64 5, .int .i64 1, .int .i64 30, .string un] 42)
                have hB5 := below_append ((unhide HO4).alloc _) hgrow5 (Nat.le_trans hs4 hA.size)
                refine ⟨k + 1, m + 1, _, be, a5, e5, by go_num, by omega, rfl, rfl, by omega, rfl, hide ?_, HSt, hide ?_, hide ((unhide HB4).trans (hA.trans hB5)), Nat.le_trans hs4 (Nat.le_trans hA.size hB5.size)⟩
                · rw [List.length_append, unhide HOl]; rfl
                · rw [rcI_more]; exact hown5
    · have ek : k = up.length := by omega
      subst ek
      have hw : RecsOut w (aliTo up up.length).1 (.returned (.slice ao m co)) wr := by
        rw [unhide HU]
        exact ⟨ao, co, by rw [unhide HOl], by rw [unhide HOl, unhide HM]; exact unhide HO, by rw [unhide HM]; exact unhide HB⟩
      have HW := hide hw
      clear hw
      go_wp2_with fail
      go_ret
      exact unhide HW

end Go.Proofs.YtdhobdmhnocbgaaGreat
