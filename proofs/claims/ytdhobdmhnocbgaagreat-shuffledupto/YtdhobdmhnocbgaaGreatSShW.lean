/-
  Plain: news in another order, or told twice, make the same zone and the same answers.
-/
/-
  Walks over zonekeep: the same news in another order, some of them twice.
-/
import Derived.Test.YtdhobdmhnocbgaaGreatSFiP
import Derived.Test.YtdhobdmhnocbgaaGreatSNwH
import Derived.Test.YtdhobdmhnocbgaaGreatSQuC
import Derived.Test.YtdhobdmhnocbgaaGreatSSiW
namespace Go.Proofs.YtdhobdmhnocbgaaGreat
open Go.RowKit Zr

/-- Which of the news tell of the nodes that are up. -/
theorem up_iff (l : List Ev) (u : Ev) : u ∈ upP l ↔ u ∈ l ∧ goodE u ∧ u.kind = 1 ∧ ∀ x, x ∈ l → goodE x → x.node = u.node → ¬ ratherE x u := by
  rw [(upP_spec l).2]
  constructor
  · rintro ⟨i, hi, hc, hk, rfl⟩
    refine ⟨ev_mem hi, hc.1, hk, fun x hx hg hn hr => ?_⟩
    obtain ⟨k, hk1, rfl⟩ := mem_ev hx
    exact hc.2 k hk1 ⟨hg, hn, .inl hr⟩
  · rintro ⟨hm, hg, hk, hall⟩
    obtain ⟨i, hi, rfl, hfirst⟩ := first_at hm
    refine ⟨i, hi, ⟨hg, fun k hk1 hb => ?_⟩, hk, rfl⟩
    obtain ⟨b1, b2, b3⟩ := hb
    have hnr := hall _ (ev_mem hk1) b1 b2
    rcases b3 with b3 | ⟨b3, b4⟩
    · exact hnr b3
    · exact hfirst k b4 (same_ev b2.symm hg b1 hk b3 hnr).symm

theorem ser_top (l : List Ev) : ∀ n, n ≤ l.length → 0 ≤ serTo l n ∧ (∀ i, i < n → goodE (evAt l i) → (evAt l i).inc ≤ serTo l n) ∧ (serTo l n = 0 ∨ ∃ i, i < n ∧ goodE (evAt l i) ∧ (evAt l i).inc = serTo l n)
  | 0, _ => ⟨by simp [serTo], fun i h => by omega, .inl rfl⟩
  | n + 1, hn => by
    obtain ⟨h1, h2, h3⟩ := ser_top l n (by omega)
    rw [serTo]
    by_cases c : goodE (evAt l n) ∧ serTo l n < (evAt l n).inc
    · rw [if_pos c]
      refine ⟨by omega, fun i hi hg => ?_, .inr ⟨n, by omega, c.1, rfl⟩⟩
      rcases Nat.lt_or_ge i n with q | q
      · have := h2 i q hg; omega
      · obtain rfl : i = n := by omega
        exact Int.le_refl _
    · rw [if_neg c]
      refine ⟨h1, fun i hi hg => ?_, ?_⟩
      · rcases Nat.lt_or_ge i n with q | q
        · exact h2 i q hg
        · obtain rfl : i = n := by omega
          by_cases q2 : serTo l i < (evAt l i).inc
          · exact absurd ⟨hg, q2⟩ c
          · omega
      · rcases h3 with h3 | ⟨i, a, b⟩
        · exact .inl h3
        · exact .inr ⟨i, by omega, b⟩

theorem ser_le {L M : List Ev} (h : ∀ x, x ∈ L → x ∈ M) : serTo L L.length ≤ serTo M M.length := by
  obtain ⟨a1, a2, a3⟩ := ser_top L _ (Nat.le_refl _)
  obtain ⟨b1, b2, b3⟩ := ser_top M _ (Nat.le_refl _)
  rcases a3 with a3 | ⟨i, hi, hg, he⟩
  · omega
  · obtain ⟨k, hk, hke⟩ := mem_ev (h _ (ev_mem hi))
    have := b2 k hk (by rw [hke]; exact hg)
    rw [hke] at this
    omega

theorem records_mem {L M : List Ev} (h : ∀ x, x ∈ L ↔ x ∈ M) : recordsP L = recordsP M := by
  have hu : upP L = upP M := rising_eq (upP_spec L).1 (upP_spec M).1 fun e => by rw [up_iff, up_iff]; simp only [h]
  have hs : serTo L L.length = serTo M M.length := Int.le_antisymm (ser_le fun x => (h x).1) (ser_le fun x => (h x).2)
  unfold recordsP
  rw [hu, hs]

theorem rep_mem {L M : List Ev} (h : ∀ x, x ∈ L ↔ x ∈ M) (b : ByteArray) (stream : Bool) : repP L b stream = repP M b stream := by
  have e : recordsM L = recordsM M := by rw [records_same, records_same]; exact records_mem h
  unfold repP
  split
  · rfl
  · unfold takeP
    simp only [e]

theorem resp_mem {L M : List Ev} (h : ∀ x, x ∈ L ↔ x ∈ M) (b : ByteArray) (stream : Bool) {s : ByteArray} (hs : RespIs L b stream s) : RespIs M b stream s := by
  unfold RespIs at *
  rw [rep_mem h] at hs
  exact hs

theorem put_mem (L : List Ev) (k : Nat) (x y : Ev) : y ∈ L.take k ++ x :: L.drop k ↔ y ∈ L ∨ y = x := by
  rw [List.mem_append, List.mem_cons]
  conv => rhs; rw [← List.take_append_drop k L, List.mem_append]
  constructor
  · rintro (h | h | h)
    · exact .inl (.inl h)
    · exact .inr h
    · exact .inl (.inr h)
  · rintro ((h | h) | h)
    · exact .inl h
    · exact .inr (.inr h)
    · exact .inr (.inl h)
theorem take_mem {l : List Ev} {j : Nat} (h : j < l.length) (y : Ev) : y ∈ l.take (j + 1) ↔ y ∈ l.take j ∨ y = l[j] := by
  rw [List.take_succ_eq_append_getElem h, List.mem_append, List.mem_singleton]
theorem put_len (L : List Ev) (k : Nat) (x : Ev) : (L.take k ++ x :: L.drop k).length = L.length + 1 := by
  rw [List.length_append, List.length_cons, List.length_take, List.length_drop]
  omega
theorem sized_mem {L M : List Ev} (h : ∀ x, x ∈ M → x ∈ L) (hz : EvSized L) : EvSized M := by
  intro i hi
  have hm := h _ (List.getElem_mem hi)
  obtain ⟨k, hk, e⟩ := List.getElem_of_mem hm
  rw [← e]
  exact hz k hk

end Go.Proofs.YtdhobdmhnocbgaaGreat

namespace Go.Proofs.YtdhobdmhnocbgaaGreat
open Go.RowKit Zr

/-- The same news, in another order, or some twice. -/
def ShufOut (w : World) (l : List Ev) (e : Ending) (w' : World) : Prop := ∃ M : List Ev, (∀ x, x ∈ M ↔ x ∈ l) ∧ M.length ≤ 1048576 ∧ EvsOut w M e w'

def Alike (M L : List Ev) : Prop := ∀ x, x ∈ M ↔ x ∈ L
theorem alike_put {M l : List Ev} {j : Nat} (hj : j < l.length) (h : Alike M (l.take j)) (k : Nat) : Alike (M.take k ++ l[j] :: M.drop k) (l.take (j + 1)) := fun x => by
  rw [put_mem, take_mem hj, h x]
theorem alike_more {M l : List Ev} {j : Nat} (hj : j < l.length) (h : Alike M l) : Alike (M ++ [l[j]]) l := fun x => by
  rw [List.mem_append, List.mem_singleton, h x]
  constructor
  · rintro (q | q)
    · exact q
    · rw [q]; exact List.getElem_mem hj
  · exact .inl

set_option maxRecDepth 100000 in
set_option maxHeartbeats 4000000 in
theorem shuffled_k (l : List Ev) (al : Option Addr) (cl : Nat) (ao : Option Addr) (n c N : Nat) (w : World) (hE : RowAt w N al (evC l)) (hN : N ≤ w.heap.size) (hl : l.length ≤ 1048576) (hraw : RawAt w N ao n) (hn : n ≤ 1048576) :
    Calls Tryz.prog 12 #[.slice al l.length cl, .slice ao n c] w fun e w' => ShufOut w l e w' := by
  have HRow := hide hE
  have HRaw := hide hraw
  obtain ⟨i0, hi, hz0, hz1, hz2⟩ := info_parts Tryz.info48
  have Hi := hide hi
  have Hz0 := hide hz0
  have Hz1 := hide hz1
  have Hz2 := hide hz2
  clear hi hz0 hz1 hz2 hE hraw
  obtain ⟨M, hM⟩ : ∃ M, w.heap.size = M := ⟨_, rfl⟩
  have HM := hide hM
  have hs0 : M ≤ w.heap.size := by omega
  rw [hM] at hN
  clear hM
  go_enter Tryz.func12, Tryz.ntmps12
  go_wp2_with fail
  go_loopg [5, 6] (l.length + 1) (fun g vl vi w' => ∃ (j : Nat) (L : List Ev) (ar : Option Addr) (cr : Nat), vi = .int .i64 j ∧ j ≤ l.length ∧ g = l.length + 1 - j ∧ vl = .slice ar j cr ∧ Hid (Alike L (l.take j)) ∧ Hid (L.length = j) ∧ Hid (w'.ownsRow M 48 7 (.slice ar j cr) j (evC L)) ∧ Hid (Below M w w') ∧ M ≤ w'.heap.size)
  case atStart => exact ⟨0, [], none, 0, rfl, Nat.zero_le _, rfl, rfl, hide (fun x => by simp), hide rfl, hide (World.ownsRow_nil _ _ _ _), hide (Below.refl _ _), hs0⟩
  case round =>
    obtain ⟨j, L, ar, cr, rfl, hj, rfl, rfl, HA, HL, HO, HB, hs⟩ := hrel
    by_cases cj : j < l.length
    · obtain ⟨b, o, rfl, hb, x0, x1, x2, x3, x4, x5, x6⟩ := row_e ((unhide HRow).below ((unhide HB).mono hN)) j cj
      have HA2 := hide (alike_put cj (unhide HA))
      obtain ⟨k, hk⟩ : ∃ k, l[j] = k := ⟨_, rfl⟩
      rw [hk] at HA2 x0 x1 x2 x3 x4 x5 x6
      clear hk
      have KM := hide (fun v h1 h2 => among_k L k v ar j cr M wr (unhide HO) (unhide HL) (by omega) h1 h2)
      obtain ⟨kd, n0, ic, ad, pt, tx, ali⟩ := k
      unfold Ev.val at KM
      simp only at x0 x1 x2 x3 x4 x5 x6 KM
      by_cases cn : j < n
      · obtain ⟨b2, o2, z, rfl, hb2, y0, z1, z2⟩ := (unhide HRaw).below ((unhide HB).mono hN) j cn
        have KP := hide (pick_any z (j + 1) ((j : Int) + 1) wr z1 z2 (by omega) (by omega) (by omega))
        go_wp2_with fail
        refine (unhide KP).mono ?_
        rintro e w1 ⟨⟨r, hr, rfl⟩, rfl⟩
        go_wp2_with fail
        refine (unhide KM _ (by omega) (by omega)).mono ?_
        rintro e w2 ⟨k, hk, a2, c2, rfl, hown2, hb2⟩
        have HB2 := hide ((unhide HB).trans (hb2.mono hs))
        have hs2 : M ≤ w2.heap.size := Nat.le_trans hs hb2.size
        have HO2 := hide (owns_down hown2 hs)
        have hlen := put_len L k ⟨kd, n0, ic, ad, pt, tx, ali⟩
        rw [unhide HL] at hlen
        rw [hlen] at HO2 ⊢
        have HA3 := hide (unhide HA2 k)
        have HL3 := hide hlen
        clear hown2 hb2 KM KP hlen x0 x1 x2 x3 x4 x5 x6 y0 z1 z2 hr
        go_wp2_with fail
        go_roundg (l.length + 1 - (j + 1))
        case measure => omega
        case rel => exact ⟨j + 1, _, a2, c2, by go_num, by omega, rfl, rfl, HA3, HL3, HO2, HB2, hs2⟩
      · go_wp2_with fail
        refine (unhide KM _ (by omega) (by omega)).mono ?_
        rintro e w2 ⟨k, hk, a2, c2, rfl, hown2, hb2⟩
        have HB2 := hide ((unhide HB).trans (hb2.mono hs))
        have hs2 : M ≤ w2.heap.size := Nat.le_trans hs hb2.size
        have HO2 := hide (owns_down hown2 hs)
        have hlen := put_len L k ⟨kd, n0, ic, ad, pt, tx, ali⟩
        rw [unhide HL] at hlen
        rw [hlen] at HO2 ⊢
        have HA3 := hide (unhide HA2 k)
        have HL3 := hide hlen
        clear hown2 hb2 KM hlen x0 x1 x2 x3 x4 x5 x6
        go_wp2_with fail
        go_roundg (l.length + 1 - (j + 1))
        case measure => omega
        case rel => exact ⟨j + 1, _, a2, c2, by go_num, by omega, rfl, rfl, HA3, HL3, HO2, HB2, hs2⟩
    · have ej : j = l.length := by omega
      subst ej
      have hA := unhide HA
      rw [List.take_length] at hA
      have HAl := hide hA
      clear hA HA
      have hs1 : M ≤ wr.heap.size := hs
      go_wp2_with fail
      go_loopg [5, 8] (n + 1 - l.length) (fun g vl vi w' => ∃ (i : Nat) (L : List Ev) (ar : Option Addr) (cr p : Nat), vi = .int .i64 i ∧ l.length ≤ i ∧ (i ≤ n ∨ i = l.length) ∧ g = n + 1 - i ∧ vl = .slice ar p cr ∧ p ≤ i ∧ Hid (Alike L l) ∧ Hid (L.length = p) ∧ Hid (w'.ownsRow M 48 7 (.slice ar p cr) p (evC L)) ∧ Hid (Below M w w') ∧ M ≤ w'.heap.size)
      case atStart => exact ⟨l.length, L, ar, cr, l.length, rfl, Nat.le_refl _, .inr rfl, rfl, rfl, Nat.le_refl _, HAl, HL, HO, HB, hs⟩
      case round =>
        obtain ⟨i, L2, a2, c2, p, rfl, hi1, hi2, rfl, rfl, hp, HA2, HL2, HO2, HB2, hs2⟩ := hrel
        have HEnd : Hid (ShufOut w l (.returned (.slice a2 p c2)) wr) := by
          refine ⟨L2, unhide HA2, by rw [unhide HL2]; omega, a2, c2, by rw [unhide HL2], ?_, ?_⟩
          · rw [unhide HL2, unhide HM]; exact unhide HO2
          · rw [unhide HM]; exact unhide HB2
        by_cases ci : i < n
        · by_cases cl0 : 0 < l.length
          · clear HEnd
            obtain ⟨b2, o2, z, rfl, hbz, y0, z1, z2⟩ := (unhide HRaw).below ((unhide HB2).mono hN) i ci
            have KP := hide (pick_any z l.length (l.length : Int) wr z1 z2 cl0 (by omega) rfl)
            go_wp2_with fail
            refine (unhide KP).mono ?_
            rintro e w1 ⟨⟨r, hr, rfl⟩, rfl⟩
            obtain ⟨b, o, rfl, hb, x0, x1, x2, x3, x4, x5, x6⟩ := row_e ((unhide HRow).below ((unhide HB2).mono hN)) r hr
            have HA3 := hide (alike_more hr (unhide HA2))
            obtain ⟨k, hk⟩ : ∃ k, l[r] = k := ⟨_, rfl⟩
            rw [hk] at HA3 x0 x1 x2 x3 x4 x5 x6
            clear hk KP y0 z1 z2
            obtain ⟨kd, n0, ic, ad, pt, tx, ali⟩ := k
            simp only at x0 x1 x2 x3 x4 x5 x6
            go_wp2_with (at_builtin; refine wpList_append_row _ rfl _ _ 22 22 rfl M 48 i0 (.agg #[.int .i64 0, .string ⟨#[]⟩, .int .i64 0, .string ⟨#[]⟩, .int .i64 0, .string ⟨#[]⟩, .string ⟨#[]⟩]) 7 88 Tryz.underlying22 (unhide Hi) (unhide Hz0) (unhide Hz1) (unhide Hz2) rfl (.slice a2 p c2) p (evC L2) (by rfl) ((unhide HO2).alloc _) (.slice (some ⟨w1.heap.size, 0, none⟩) 1 1) 1 [.int .i64 kd, .string n0, .int .i64 ic, .string ad, .int .i64 pt, .string tx, .string ali] (by rfl) (Src.ofSlice _ Tryz.underlying22 ⟨w1.heap.size, 0, none⟩ 1 1 _ rfl (cell_seven_new _ _ _ _ _ _ _ _ _ _ rfl) one7) (by unfold maxLen; omega) (by omega) (by simp; omega) ?_; intro a1 e1 w2 hown2 hgrow2 hat2; have hA := (Below.refl M w1).alloc hs2 (.cells #[.int .i64 kd, .string n0, .int .i64 ic, .string ad, .int .i64 pt, .string tx, .string ali] 48); have hB2 := hA.trans (below_append ((unhide HO2).alloc _) hgrow2 (Nat.le_trans hs2 hA.size)); have hs3 := Nat.le_trans hs2 (Nat.le_trans hA.size hgrow2.size))
            go_roundg (n + 1 - (i + 1))
            case measure => omega
            case rel =>
              refine ⟨i + 1, L2 ++ [⟨kd, n0, ic, ad, pt, tx, ali⟩], a1, e1, p + 1, by go_num, by omega, by omega, rfl, rfl, by omega, HA3, hide ?_, hide ?_, hide ((unhide HB2).trans hB2), hs3⟩
              · rw [List.length_append, unhide HL2]; rfl
              · rw [evC_push]; exact hown2
          · have el : l.length = 0 := by omega
            go_wp2_with fail
            go_ret
            exact unhide HEnd
        · go_wp2_with fail
          go_ret
          exact unhide HEnd


theorem raw_mono {w : World} {N M : Nat} {a : Option Addr} {n : Nat} (h : RawAt w N a n) (hN : N ≤ M) : RawAt w M a n := fun j hj => by
  obtain ⟨b, o, z, h1, h2, h3⟩ := h j hj
  exact ⟨b, o, z, h1, by omega, h3⟩
theorem zone_lenP (l : List Ev) (hl : l.length ≤ 1048576) : (recordsP l).length ≤ 140737488355328 := by
  have := zone_len l
  rw [records_same] at this
  omega

set_option maxRecDepth 100000 in
set_option maxHeartbeats 4000000 in
theorem shuffled_any (l : List Ev) (al : Option Addr) (cl : Nat) (ao : Option Addr) (no co : Nat) (a : Option Addr) (n c : Nat) (stream : Bool) (w : World) (hE : RowAt w w.heap.size al (evC l)) (hl : l.length ≤ 1048576) (hz : EvSized l) (hord : RawAt w w.heap.size ao no) (hno : no ≤ 1048576) (hraw : RawAt w w.heap.size a n) (hn : n ≤ 9223372036854775807) :
    Calls Tryz.prog 4 #[.slice al l.length cl, .slice ao no co, .slice a n c, .bool stream] w fun e w' => e = .returned (.bool true) ∧ Below w.heap.size w w' := by
  have K0 := hide (fixed_k w)
  have HE := hide hE
  have HOr := hide hord
  have HRaw := hide hraw
  have HZ := hide hz
  have hls : l.length ≤ 16777216 := by omega
  have hl2 : l.length ≤ 140737488355328 := by omega
  clear hE hord hraw hz
  go_enter Tryz.func4, Tryz.ntmps4
  go_wp2_with fail
  refine (unhide K0).mono ?_
  rintro e w1 ⟨rfl, hb1⟩
  have KA := hide (asked_k l al cl a n c w1 (((unhide HE).below hb1).mono hb1.size) hls (unhide HZ) (raw_mono ((unhide HRaw).below hb1) hb1.size) hn)
  have HB1 := hide hb1
  clear hb1 K0
  go_wp2_with fail
  refine (unhide KA).mono ?_
  rintro e w2 ⟨m, v, rfl, hQ, hM, hb2⟩
  have hsz := que_size hQ
  have HMute := hide (not_mute m hQ.ok hsz hQ.fl)
  obtain ⟨a1, c1, a2, c2, a3, c3, a4, c4, rfl, _⟩ := hM
  obtain ⟨sb, hsb⟩ : ∃ sb, (writ m.nat).1 = sb := ⟨_, rfl⟩
  rw [hsb] at HMute hsz ⊢
  have hB2 := (unhide HB1).trans (hb2.mono (unhide HB1).size)
  have hb3 := (Below.refl w2.heap.size w2).alloc (Nat.le_refl _) (.cells #[.int .i64 m.id, .int .i64 m.flags, .slice a1 m.q.length c1, .slice a2 m.a.length c2, .slice a3 m.u.length c3, .slice a4 m.x.length c4] 32)
  have HB3 := hide (hB2.trans (hb3.mono hB2.size))
  have hs3 := (unhide HB3).size
  have KS := hide (fun (W : World) (hW : Below w.heap.size w W) (hs : w.heap.size ≤ W.heap.size) => shuffled_k l al cl ao no co w.heap.size W ((unhide HE).below hW) hs hl ((unhide HOr).below hW) hno)
  have KR := hide (fun (W : World) (hW : Below w.heap.size w W) (hs : w.heap.size ≤ W.heap.size) => records_z l al cl w.heap.size W ((unhide HE).below hW) hs hls (unhide HZ))
  have KP := hide (fun (W : World) (hW : Below w.heap.size w W) (hs : w.heap.size ≤ W.heap.size) => zoneRespond_m l al cl w.heap.size sb stream W ((unhide HE).below hW) hs hl (unhide HZ) (by unfold maxLen; omega))
  clear hb2 hB2 hb3 KA HB1 hQ hsb
  go_wp2_with fail
  generalize w2.alloc (.cells #[.int .i64 m.id, .int .i64 m.flags, .slice a1 m.q.length c1, .slice a2 m.a.length c2, .slice a3 m.u.length c3, .slice a4 m.x.length c4] 32) = w3 at *
  refine (unhide KS _ (unhide HB3) hs3).mono ?_
  rintro e w4 ⟨Q, hQl, hQn, aq, cq, rfl, hownQ, hb4⟩
  have hB4 := (unhide HB3).trans (hb4.mono hs3)
  have hs4 := hB4.size
  have HB4 := hide hB4
  have HRowQ := hide (own_atN hownQ)
  have HQl := hide hQl
  have KRQ := hide (fun (W : World) (hW : Below w4.heap.size w4 W) => records_z Q aq cq w4.heap.size W ((unhide HRowQ).below hW) hW.size (by omega) (sized_mem (fun x hx => (hQl x).1 hx) (unhide HZ)))
  have KPQ := hide (fun (W : World) (hW : Below w4.heap.size w4 W) => zoneRespond_m Q aq cq w4.heap.size sb stream W ((unhide HRowQ).below hW) hW.size hQn (sized_mem (fun x hx => (hQl x).1 hx) (unhide HZ)) (by unfold maxLen; omega))
  have HSame := hide (records_mem hQl)
  have HResp := hide (fun s t (h1 : RespIs l sb stream s) (h2 : RespIs Q sb stream t) => resp_one l sb stream h1 (resp_mem hQl sb stream h2))
  have HSome := hide (fun s (h1 : RespIs l sb stream s) => (resp_some l sb stream s h1 (unhide HMute)).1)
  clear hb4 hB4 hownQ hQl KS HB3
  go_wp2_with fail
  refine (unhide KR _ (unhide HB4) hs4).mono ?_
  rintro e w5 ⟨ax, cx, rfl, ho5, hb5⟩
  have hB5 := (unhide HB4).trans (hb5.mono hs4)
  have hs5 := hB5.size
  have HB5 := hide hB5
  have HX := hide (own_atN ho5)
  have HC5 := hide hb5
  have HN5 := hide (zone_lenP l hl)
  clear ho5 hb5 hB5 KR HB4
  go_wp2_with fail
  refine (unhide KRQ _ (unhide HC5)).mono ?_
  rintro e w6 ⟨ay, cy, rfl, ho6, hb6⟩
  have hB6 := (unhide HB5).trans (hb6.mono hs5)
  have hs6 := hB6.size
  have HB6 := hide hB6
  have HX6 := hide ((unhide HX).below hb6)
  have HC6 := hide ((unhide HC5).trans (hb6.mono (unhide HC5).size))
  have HY6 := hide (own_atN ho6)
  clear ho6 hb6 hB6 KRQ HB5 HC5 HX
  rw [unhide HSame] at HY6 ⊢
  have KK := hide (sameRecordsK (recordsP l) ax ay cx cy _ _ w6 (unhide HX6) (unhide HY6) (unhide HN5))
  go_wp2_with fail
  refine (unhide KK).mono ?_
  rintro e w7 ⟨rfl, nd, rfl⟩
  have HB7 := hide (below_drewA (unhide HB6) nd)
  have HC7 := hide (below_drewA (unhide HC6) nd)
  have hs7 : w.heap.size ≤ (w6.drewN nd).heap.size := hs6
  generalize w6.drewN nd = w7 at *
  clear KK HX6 HY6 HB6 HC6 HN5
  go_wp2_with fail
  refine (unhide KP _ (unhide HB7) hs7).mono ?_
  rintro e w8 ⟨s, rfl, hsr, hb8⟩
  have hB8 := (unhide HB7).trans (hb8.mono hs7)
  have hs8 := hB8.size
  have HB8 := hide hB8
  have HC8 := hide ((unhide HC7).trans (hb8.mono (unhide HC7).size))
  have HS := hide hsr
  clear hsr hb8 hB8 KP HB7 HC7
  go_wp2_with fail
  refine (unhide KPQ _ (unhide HC8)).mono ?_
  rintro e w9 ⟨t, rfl, htr, hb9⟩
  have hst := unhide HResp s t (unhide HS) htr
  subst hst
  have hs12 := unhide HSome s (unhide HS)
  have HB9 := hide ((unhide HB8).trans (hb9.mono hs8))
  have f1 := strs_eq (rfl : s = s)
  have f2 : (s.toList == (⟨#[]⟩ : ByteArray).toList) = false := strs_ne fun e => by rw [e] at hs12; exact absurd hs12 (by decide)
  have f3 : (s.toList != (⟨#[]⟩ : ByteArray).toList) = true := by
    show (!(s.toList == (⟨#[]⟩ : ByteArray).toList)) = true
    rw [f2]; rfl
  have f4 : s.toList.isEmpty = false := by
    rw [List.isEmpty_eq_false_iff]
    intro e
    have e0 : (⟨#[]⟩ : ByteArray).toList = [] := by simp
    rw [e, e0] at f2
    exact absurd f2 (by decide)
  clear htr hb9 KPQ HB8 HC8
  go_wp2_with fail
  go_ret
  exact ⟨rfl, unhide HB9⟩

end Go.Proofs.YtdhobdmhnocbgaaGreat
