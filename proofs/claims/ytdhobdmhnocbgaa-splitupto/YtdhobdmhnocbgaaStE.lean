/-
  Walks: Split: a stream, cut in any way, gives just the messages.
-/
import Derived.Test.YtdhobdmhnocbgaaStD
namespace Go.Proofs.Ytdhobdmhnocbgaa
open Go.RowKit Zr

/-- What has been given of a stream's front. -/
def Given (l : List ByteArray) (k g : Nat) : Prop := g ≤ l.length ∧ heldP (l.take g) ≤ k ∧ (∀ h : g < l.length, k < heldP (l.take g) + 2 + l[g].size) ∧ cutP ((frameP l).extract 0 k) 0 = (l.take g, k - heldP (l.take g))

theorem given_zero (l : List ByteArray) (h : ∀ x, x ∈ l → x.size ≤ 65535) : Given l 0 0 := by
  obtain ⟨g, h1, h2, h3, h4⟩ := cut_front l 0 h (Nat.zero_le _)
  have : heldP (l.take g) = 0 := by omega
  have hg : g = 0 := by
    cases g with
    | zero => rfl
    | succ g =>
      have := held_take l g (by omega)
      omega
  subst hg
  exact ⟨h1, h2, h3, h4⟩

/-- A chunk more: the messages that come out. -/
theorem given_more {l : List ByteArray} (h : ∀ x, x ∈ l → x.size ≤ 65535) {k n g : Nat} (hg : Given l k g) (hk : k + n ≤ heldP l) {L : List ByteArray} {r : Nat} (hc : cutP (leftP ((frameP l).extract 0 k) ++ (frameP l).extract k (k + n)) 0 = (L, r)) : g + L.length ≤ l.length ∧ Given l (k + n) (g + L.length) ∧ L = (l.drop g).take L.length := by
  obtain ⟨g', h1, h2, h3, h4⟩ := cut_front l (k + n) h hk
  have hs := frame_size l
  have e : (frameP l).extract 0 (k + n) = (frameP l).extract 0 k ++ (frameP l).extract k (k + n) := (extract_join (frameP l) 0 k (k + n) (Nat.zero_le _) (by omega) (by omega)).symm
  have hcut := cut_chunk ((frameP l).extract 0 k) ((frameP l).extract k (k + n))
  rw [← e, h4, hc, hg.2.2.2] at hcut
  have e1 : l.take g' = l.take g ++ L := congrArg Prod.fst hcut
  have hlen : g' = g + L.length := by
    have := congrArg List.length e1
    rw [List.length_append, List.length_take, List.length_take] at this
    have := hg.1
    omega
  subst hlen
  refine ⟨h1, ⟨h1, h2, h3, h4⟩, ?_⟩
  have e2 : l.take (g + L.length) = l.take g ++ (l.drop g).take L.length := List.take_add
  rw [e2] at e1
  exact (List.append_cancel_left e1).symm

theorem given_all {l : List ByteArray} (h : ∀ x, x ∈ l → x.size ≤ 65535) {g : Nat} (hg : Given l (heldP l) g) : g = l.length := by
  have h4 := hg.2.2.2
  have hs := frame_size l
  have e : (frameP l).extract 0 (heldP l) = frameP l := by rw [← hs]; exact extract_all _
  have hc := cut_frame l ⟨#[]⟩ h
  rw [show frameP l ++ (⟨#[]⟩ : ByteArray) = frameP l from ByteArray.append_empty] at hc
  have h0 : cutP ⟨#[]⟩ 0 = ([], 0) := cut_no (by rintro ⟨h, _⟩; exact absurd (show 0 + 2 ≤ 0 from h) (by omega))
  rw [e, hc, h0] at h4
  have := congrArg (fun z => z.1.length) h4
  simp only [List.append_nil, List.length_take] at this
  have := hg.1
  omega

/-- The cells of a list of numbers. -/
def CutsAt (w : World) (N : Nat) (a : Option Addr) (n : Nat) : Prop := 0 < n → ∃ b o, a = some ⟨b, o, none⟩ ∧ b < N ∧ ∀ i, i < n → ∃ v : Int, -9223372036854775808 ≤ v ∧ v < 9223372036854775808 ∧ w.cell? ⟨b, o + i, none⟩ = some (.int .i64 v)

theorem CutsAt.below {w w' : World} {N : Nat} {a : Option Addr} {n : Nat} (h : CutsAt w N a n) (hb : Below N w w') : CutsAt w' N a n := by
  intro hn
  obtain ⟨b, o, h1, h2, h3⟩ := h hn
  refine ⟨b, o, h1, h2, fun i hi => ?_⟩
  obtain ⟨v, h4, h5, h6⟩ := h3 i hi
  exact ⟨v, h4, h5, (hb.cell (p := ⟨b, o + i, none⟩) h2).trans h6⟩

theorem held_at (l : List ByteArray) (a : Option Addr) (c N n : Nat) (v : Int) (w : World) (h1 : RowAt w N a (stC l)) (hn : n ≤ l.length) (hl : l.length ≤ 33554432) (hz : heldP l ≤ 67108864) (hv : v = n) :
    Calls Try.prog 24 #[.slice a l.length c, .int .i64 v] w fun r w' => r = .returned (.int .i64 (heldP (l.take n) : Nat)) ∧ ∃ m, w' = w.drewN m := by
  subst hv
  exact held_k l a c N n w h1 hn hl hz

set_option maxRecDepth 100000 in
set_option maxHeartbeats 4000000 in
theorem split_any (l : List ByteArray) (a : Option Addr) (c N : Nat) (a2 : Option Addr) (n2 c2 : Nat) (w : World) (hrow : RowAt w N a (stC l)) (hcuts : CutsAt w N a2 n2) (hN : N ≤ w.heap.size) (hl : l.length ≤ 33554432) (hz : heldP l ≤ 67108864) (hn2 : n2 ≤ 33554432) :
    Calls Try.prog 7 #[.slice a l.length c, .slice a2 n2 c2] w fun r w' => r = .returned (.bool true) ∧ Below w.heap.size w w' := by
  have key := frame_z l a c N w hrow hN hl hz
  have K := hide key
  have HRow := hide hrow
  have HCuts := hide hcuts
  clear key hrow hcuts
  go_enter Try.func7, Try.ntmps7
  go_wp2_with fail
  refine (unhide K).mono ?_
  rintro r w1 ⟨s, e, rfl, h1, hb1⟩
  have HRow1 := hide ((unhide HRow).below (hb1.mono hN))
  have HCuts1 := hide ((unhide HCuts).below (hb1.mono hN))
  have HB1 := hide hb1
  have hs1 : w.heap.size ≤ w1.heap.size := hb1.size
  clear K hb1
  rcases h1 with ⟨⟨x, hx, hx2⟩, rfl, rfl⟩ | ⟨hall, rfl, rfl⟩
  · have HX : Hid (∃ x, x ∈ l ∧ 65535 < x.size) := hide ⟨x, hx, hx2⟩
    clear hx hx2 x
    go_wp2_with fail
    go_loop [7] (fun i => ∃ j : Nat, j ≤ l.length ∧ i = .int .i64 j ∧ Hid (∀ k (h : k < l.length), k < j → l[k].size ≤ 65535)) (fun i => l.length - (intOf i).toNat)
    case atStart => exact ⟨0, Nat.zero_le _, rfl, hide fun k _ hk => by omega⟩
    case round =>
      obtain ⟨j, hj, rfl, HA⟩ := hrel
      by_cases cj : j < l.length
      · obtain ⟨b, o, rfl, hb, x0⟩ := row_s (unhide HRow1) j cj
        by_cases cx : 65535 < l[j].size
        · generalize l[j] = x at *
          go_wp2_with fail
          go_ret
          exact ⟨rfl, unhide HB1⟩
        · have HA2 : Hid (∀ k (h : k < l.length), k < j + 1 → l[k].size ≤ 65535) := hide fun k hk hkj => by
            by_cases e : k = j
            · subst e; omega
            · exact unhide HA k hk (by omega)
          generalize l[j] = x at *
          go_wp2_with fail
          go_round
          case rel => exact ⟨j + 1, by omega, by go_num, HA2⟩
          case measure => simp [intOf]; omega
      · exfalso
        obtain ⟨x, hx, hx2⟩ := unhide HX
        obtain ⟨k, hk, rfl⟩ := List.mem_iff_getElem.1 hx
        have := unhide HA k hk (by omega)
        omega
  · have HAll := hide hall
    clear hall
    go_wp2_with fail
    go_loop [7] (fun i => ∃ j : Nat, j ≤ l.length ∧ i = .int .i64 j) (fun i => l.length - (intOf i).toNat)
    case atStart => exact ⟨0, Nat.zero_le _, rfl⟩
    case round =>
      obtain ⟨j, hj, rfl⟩ := hrel
      by_cases cj : j < l.length
      · obtain ⟨b, o, rfl, hb, x0⟩ := row_s (unhide HRow1) j cj
        have hx := unhide HAll _ (List.getElem_mem cj)
        generalize l[j] = x at *
        go_wp2_with fail
        go_round
        case rel => exact ⟨j + 1, by omega, by go_num⟩
        case measure => simp [intOf]; omega
      · have ej : j = l.length := by omega
        subst ej
        go_wp2_with fail
        refine (newFeed_z w1).mono ?_
        rintro r w2 ⟨rfl, hR, hs2, hb2⟩
        have HRow2 := hide ((unhide HRow1).below (hb2.mono (by omega)))
        have HCuts2 := hide ((unhide HCuts1).below (hb2.mono (by omega)))
        have HB2 := hide ((unhide HB1).trans (hb2.mono hs1))
        have HF2 := hide (fd_new hR)
        have hsz := frame_size l
        have hlt : w1.heap.size < w2.heap.size := by omega
        clear HRow1 HCuts1 HB1 hb2 hR hs2
        generalize w1.heap.size = R at *
        have KH := hide (fun W (h : RowAt W N a (stC l)) (n : Nat) (hn : n ≤ l.length) => held_k l a c N n W h hn hl hz)
        have HS := hide hsz
        have hsle : (frameP l).size ≤ 67108864 := by omega
        clear hsz
        go_wp2_with fail
        refine (unhide KH _ (unhide HRow2) l.length (Nat.le_refl _)).mono ?_
        rintro r w3 ⟨rfl, m3, rfl⟩
        rw [List.take_length]
        have hzz := unhide HS
        rw [← hzz]
        clear hzz
        generalize hfr : frameP l = s at *
        go_wp2_with fail
        have HG0 := hide (given_zero l (unhide HAll))
        have HFd : Hid (FdAt (w2.drewN m3) R (s.extract 0 0)) := by rw [extract_self]; exact HF2
        have HBd : Hid (Below w.heap.size w (w2.drewN m3)) := ⟨(unhide HB2).os, (unhide HB2).tape, (unhide HB2).output, (unhide HB2).size, (unhide HB2).block⟩
        have hltd : R < (w2.drewN m3).heap.size := hlt
        have hs9 := hide (unhide HS)
        clear hlt HF2 HRow2 HCuts2 HB2
        generalize w2.drewN m3 = w4 at *
        go_loopg [9, 10, 11] (n2 + 2) (fun g va vg vi w' => ∃ (k gv j : Nat), va = .int .i64 k ∧ vg = .int .i64 gv ∧ vi = .int .i64 j ∧ j ≤ n2 + 1 ∧ g = n2 + 2 - j ∧ k ≤ s.size ∧ (j = n2 + 1 → k = s.size) ∧ gv ≤ l.length ∧ Hid (Given l k gv) ∧ Hid (FdAt w' R (s.extract 0 k)) ∧ Hid (Below w.heap.size w w') ∧ R < w'.heap.size)
        case atStart => exact ⟨0, 0, 0, rfl, rfl, rfl, Nat.zero_le _, rfl, Nat.zero_le _, fun h => by omega, Nat.zero_le _, HG0, HFd, HBd, hltd⟩
        case round =>
          obtain ⟨k, gv, j, rfl, rfl, rfl, hj, rfl, hk, hend, hgv, HG, HF, HB, hlt⟩ := hrel
          by_cases cj : j ≤ n2
          · have hcut1 := (unhide HCuts).below ((unhide HB).mono hN)
            go_upto_if 68 with fail
            go_cut [12] (fun vn w' => ∃ n : Nat, vn = .int .i64 n ∧ k + n ≤ s.size ∧ (j = n2 → k + n = s.size) ∧ w' = wr)
            case first =>
              by_cases cc : j < n2
              · obtain ⟨b, o, rfl, hb, hcs⟩ := hcut1 (by omega)
                obtain ⟨v, v1, v2, x0⟩ := hcs j cc
                go_wp2_with fail
                refine (pick_k v (s.size - k + 1) _ _ v1 v2 (by omega) (by omega) (by omega)).mono ?_
                rintro r w5 ⟨⟨q, hq, rfl⟩, rfl⟩
                go_wp2_with fail
                go_meet
                exact ⟨q, rfl, by omega, fun h => by omega, rfl⟩
              · go_wp2_with fail
                go_meet
                exact ⟨s.size - k, by go_num, by omega, fun _ => by omega, rfl⟩
            case rest =>
              obtain ⟨n, rfl, hn, hne, rfl⟩ := hcut
              go_wp2_with fail
              have hz0 : (s.extract 0 k).size = k := by rw [size_extract' _ _ _ (by omega) hk]; omega
              have hz1 : (s.extract k (k + n)).size = n := by rw [size_extract' _ _ _ (by omega) hn]; omega
              refine (push_z R (s.extract 0 k) (s.extract k (k + n)) _ (unhide HF) (by rw [hz0, hz1]; omega)).mono ?_
              rintro r w6 ⟨L, a3, c3, hc, rfl, ho, hf, hg⟩
              clear hz0 hz1
              rw [extract_join s 0 k (k + n) (Nat.zero_le _) (by omega) hn] at hf
              have hcc := hc
              rw [← hfr] at hcc
              obtain ⟨q1, q2, q3⟩ := given_more (unhide HAll) (unhide HG) (by rw [unhide hs9] at hn; exact hn) hcc
              have HQ2 := hide q2
              have HQ3 := hide q3
              have HO := hide ho
              have HF6 := hide hf
              have hb6 : Below w.heap.size w w6 := ⟨hg.os.trans (unhide HB).os, hg.tape.trans (unhide HB).tape, hg.output.trans (unhide HB).output, Nat.le_trans (unhide HB).size hg.size, fun i hi => (hg.block i (Nat.lt_of_lt_of_le hi (unhide HB).size) (fun e => by cases e; omega)).trans ((unhide HB).block i hi)⟩
              have hlt6 : R < w6.heap.size := Nat.lt_of_lt_of_le hlt hg.size
              have HB6 := hide hb6
              have HRow6 := hide ((unhide HRow).below (hb6.mono hN))
              have hcut6 := (unhide HCuts).below (hb6.mono hN)
              have HCut6 := hide hcut6
              obtain ⟨c4, hc4⟩ : ∃ c4, c4 = L.length := ⟨_, rfl⟩
              clear hc hcc q2 q3 ho hf hg hb6 hcut1 HF HB hlt hcut6
              go_wp2_with fail
              go_loopw [10, 14] (fun vg vt w' => ∃ t m : Nat, t ≤ L.length ∧ vt = .int .i64 t ∧ vg = .int .i64 ((gv : Int) + t) ∧ w' = w6.drewN m) (fun _ vt _ => L.length - (intOf vt).toNat)
              case atStart => exact ⟨0, 0, Nat.zero_le _, rfl, by go_num, rfl⟩
              case round =>
                obtain ⟨t, m, ht, rfl, rfl, rfl⟩ := hrel
                by_cases ct : t < L.length
                · obtain ⟨gb, rfl, _, _, hcap⟩ := owns_form (unhide HO) (by omega)
                  have x1 := owns_cell (unhide HO) t _ (stC_at ct)
                  obtain ⟨b, o, rfl, _, x2⟩ := row_s (unhide HRow6) (gv + t) (by omega)
                  have heq : L[t] = l[gv + t] := by
                    have h1 : L[t]? = ((l.drop gv).take L.length)[t]? := by rw [← unhide HQ3]
                    rw [List.getElem?_take_of_lt ct, List.getElem?_drop, List.getElem?_eq_getElem ct, List.getElem?_eq_getElem (by omega)] at h1
                    exact Option.some.inj h1
                  rw [← heq] at x2
                  generalize L[t] = y at *
                  clear heq
                  have hi1 : (t : Int) < (L.length : Int) := by omega
                  have hi2 : ((gv : Int) + t) < (l.length : Int) := by omega
                  have hd1 : decide ((l.length : Int) ≤ (gv : Int) + t) = false := decide_eq_false (by omega)
                  have x2' : w6.cell? ⟨b, o + ((gv : Int) + t).toNat, none⟩ = some (.string y) := by rw [show ((gv : Int) + t).toNat = gv + t by omega]; exact x2
                  go_wp2_with fail
                  go_quiet (fail)
                  go_wp2_with fail
                  refine ⟨⟨t + 1, m + nq, by omega, by go_num, by go_num, rfl⟩, by simp [intOf]; omega⟩
                · have et : t = L.length := by omega
                  subst et
                  go_wp2_with fail
                  refine (held_at l a c N (gv + L.length) _ _ (show RowAt (w6.drewN m) N a (stC l) from unhide HRow6) q1 hl hz (by omega)).mono ?_
                  rintro r w7 ⟨rfl, m7, rfl⟩
                  obtain ⟨y1, y2, y3, y4⟩ := unhide HQ2
                  rw [hfr] at y4
                  have HY4 := hide y4
                  have hhl : heldP (l.take (gv + L.length)) ≤ 67108864 := Nat.le_trans (held_take_le _ _) hz
                  generalize heldP (l.take (gv + L.length)) = hh at *
                  clear y4
                  rw [World.drewN_drewN]
                  go_upto_region 27 with fail
                  go_cut [128] (fun v w' => v = .bool false ∧ w' = w6.drewN (m + m7))
                  case first =>
                    by_cases cg : gv + L.length < l.length
                    · obtain ⟨b, o, rfl, _, x2⟩ := row_s (unhide HRow6) (gv + L.length) cg
                      have hy3 := y3 cg
                      have hys := unhide HAll _ (List.getElem_mem cg)
                      generalize l[gv + L.length] = y at *
                      have x2' : w6.cell? ⟨b, o + ((gv : Int) + L.length).toNat, none⟩ = some (.string y) := by rw [show ((gv : Int) + L.length).toNat = gv + L.length by omega]; exact x2
                      clear y3
                      go_wp2_with fail
                      go_meet
                      exact ⟨by rw [decide_eq_false (by omega)], rfl⟩
                    · clear y3
                      go_wp2_with fail
                      go_meet
                      exact ⟨rfl, rfl⟩
                  case rest =>
                    obtain ⟨rfl, rfl⟩ := hcut
                    clear y3
                    have hlx : n2 + 2 - (j + 1) < n2 + 2 - j := by omega
                    have hrel : ∀ M, ∃ (k' gv' j' : Nat), Value.int .i64 ((k : Int) + n) = .int .i64 k' ∧ Value.int .i64 ((gv : Int) + L.length) = .int .i64 gv' ∧ Value.int .i64 ((j : Int) + 1) = .int .i64 j' ∧ j' ≤ n2 + 1 ∧ n2 + 2 - (j + 1) = n2 + 2 - j' ∧ k' ≤ s.size ∧ (j' = n2 + 1 → k' = s.size) ∧ gv' ≤ l.length ∧ Hid (Given l k' gv') ∧ Hid (FdAt (w6.drewN M) R (s.extract 0 k')) ∧ Hid (Below w.heap.size w (w6.drewN M)) ∧ R < (w6.drewN M).heap.size := fun M =>
                      ⟨k + n, gv + L.length, j + 1, by go_num, by go_num, by go_num, by omega, rfl, hn, fun h => hne (by omega), q1, HQ2, HF6, hide ⟨(unhide HB6).os, (unhide HB6).tape, (unhide HB6).output, (unhide HB6).size, (unhide HB6).block⟩, hlt6⟩
                    have HREL := hide hrel
                    clear hrel
                    go_upto_region 29 with fail
                    go_cut [139] (fun v w' => (∃ b, v = .bool b) ∧ w' = w6.drewN (m + m7))
                    case first =>
                      by_cases cc : j < n2
                      · obtain ⟨b, o, rfl, hb, hcs⟩ := unhide HCut6 (by omega)
                        obtain ⟨v, v1, v2, x0⟩ := hcs j cc
                        by_cases cv : v < 0
                        · go_wp2_with fail
                          go_meet
                          exact ⟨⟨_, rfl⟩, rfl⟩
                        · go_wp2_with fail
                          go_meet
                          exact ⟨⟨_, rfl⟩, rfl⟩
                      · go_wp2_with fail
                        go_meet
                        exact ⟨⟨_, rfl⟩, rfl⟩
                    case rest =>
                      obtain ⟨⟨b, rfl⟩, rfl⟩ := hcut
                      cases b with
                      | true =>
                        go_wp2_with fail
                        go_roundg (n2 + 2 - (j + 1))
                        case measure => exact hlx
                        case rel => exact unhide HREL _
                      | false =>
                        go_wp2_with fail
                        refine (left_z R (s.extract 0 (k + n)) _ (show FdAt (w6.drewN (m + m7)) R _ from unhide HF6) (by rw [size_extract' _ _ _ (by omega) hn]; omega)).mono ?_
                        rw [unhide HY4]
                        rintro r w8 ⟨rfl, m8, rfl⟩
                        rw [World.drewN_drewN]
                        have hii : (((k + n - hh : Nat)) : Int) = (k : Int) + n - hh := by omega
                        simp only [hii]
                        go_wp2_with fail
                        go_roundg (n2 + 2 - (j + 1))
                        case measure => exact hlx
                        case rel => exact unhide HREL _
          · have ej : j = n2 + 1 := by omega
            have ek := hend ej
            subst ej ek
            have hG := unhide HG
            rw [unhide hs9] at hG
            have eg := given_all (unhide HAll) hG
            have HEG := hide eg
            clear hG eg
            go_wp2_with fail
            go_ret
            exact ⟨by rw [unhide HEG]; simp, unhide HB⟩

end Go.Proofs.Ytdhobdmhnocbgaa
