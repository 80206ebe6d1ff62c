/-
  Walks over the document's own answer: a node's name, good news, which count rather.
-/
import Derived.Test.YtdhobdmhnocbgaaGreatSMeC
import Derived.Test.YtdhobdmhnocbgaaGreatSWellY
namespace Go.Proofs.YtdhobdmhnocbgaaGreat
open Go.RowKit Zr

def Ev.val (e : Ev) : Value := .agg #[.int .i64 e.kind, .string e.node, .int .i64 e.inc, .string e.addr, .int .i64 e.port, .string e.text, .string e.alias]

theorem seven (c : Nat) : c < 45 ∨ c = 45 ∨ (45 < c ∧ c < 48) ∨ (48 ≤ c ∧ c ≤ 57) ∨ (57 < c ∧ c < 97) ∨ (97 ≤ c ∧ c ≤ 122) ∨ 122 < c := by omega

set_option maxRecDepth 100000 in
set_option maxHeartbeats 1000000 in
theorem label_any' (s : ByteArray) (w : World) (hs : s.size ≤ 281474976710656) :
    Calls Tryz.prog 124 #[.string s] w fun e w' => BoolIs (labelOk s) e ∧ w' = w := by
  go_enter Tryz.func124, Tryz.ntmps124
  go_wp2_with fail
  go_loop [3] (fun i => ∃ j : Nat, j ≤ s.size ∧ i = .int .i64 j ∧ Hid (∀ m, m < j → labC (bt s m))) (fun i => s.size - (intOf i).toNat)
  case atStart => exact ⟨0, Nat.zero_le _, rfl, hide fun m hm => by omega⟩
  case round =>
    obtain ⟨j, hj, rfl, HL⟩ := hrel
    by_cases cj : j < s.size
    · have hg := bt_get s j cj
      obtain ⟨c, hc⟩ : ∃ c, bt s j = c := ⟨_, rfl⟩
      rw [hc] at hg
      have HC := hide hc
      clear hc
      rcases seven c with h | h | h | h | h | h | h
      all_goals
        (first | have d1 : decide ((97 : Int) ≤ (c : Int)) = true := decide_eq_true (by omega) | have d1 : decide ((97 : Int) ≤ (c : Int)) = false := decide_eq_false (by omega))
        (first | have d2 : decide ((c : Int) ≤ (122 : Int)) = true := decide_eq_true (by omega) | have d2 : decide ((c : Int) ≤ (122 : Int)) = false := decide_eq_false (by omega))
        (first | have d3 : decide ((48 : Int) ≤ (c : Int)) = true := decide_eq_true (by omega) | have d3 : decide ((48 : Int) ≤ (c : Int)) = false := decide_eq_false (by omega))
        (first | have d4 : decide ((c : Int) ≤ (57 : Int)) = true := decide_eq_true (by omega) | have d4 : decide ((c : Int) ≤ (57 : Int)) = false := decide_eq_false (by omega))
        (first | have d5 : ((c : Int) != (45 : Int)) = true := bne_iff_ne.2 (by omega) | have d5 : ((c : Int) != (45 : Int)) = false := by rw [bne_eq_false_iff_eq]; omega)
        go_wp2_with fail
        first
          | (go_round
             case rel =>
               refine ⟨j + 1, by omega, by go_num, hide fun m hm => ?_⟩
               rcases Nat.lt_or_ge m j with k | k
               · exact unhide HL m k
               · have : m = j := by omega
                 subst this
                 rw [unhide HC]
                 unfold labC
                 omega
             case measure => simp [intOf]; omega)
          | (go_ret
             refine ⟨⟨_, rfl, ⟨fun h => by simp at h, fun h => ?_⟩⟩, rfl⟩
             have := h.1 j cj
             rw [unhide HC] at this
             unfold labC at this
             omega)
    · have e : j = s.size := by omega
      subst e
      by_cases c1 : 1 ≤ s.size
      · go_wp2_with fail
        go_ret
        refine ⟨⟨_, rfl, ?_⟩, rfl⟩
        simp only [decide_eq_true_eq]
        exact ⟨fun h => ⟨unhide HL, c1, by omega⟩, fun h => by have := h.2.2; omega⟩
      · go_wp2_with fail
        go_ret
        exact ⟨⟨_, rfl, ⟨fun h => by simp at h, fun h => absurd h.2.1 c1⟩⟩, rfl⟩

theorem empty_iff (s : ByteArray) : s.toList.isEmpty = true ↔ s = ⟨#[]⟩ := by
  rw [bytes_isEmpty, decide_eq_true_eq]
  constructor
  · exact fun h => ByteArray.ext (Array.eq_empty_of_size_eq_zero h)
  · intro h; subst h; rfl

set_option maxRecDepth 100000 in
set_option maxHeartbeats 2000000 in
theorem good_any (e : Ev) (w : World) (h1 : e.node.size ≤ 281474976710656) (h2 : e.alias.size ≤ 281474976710656) (h3 : e.addr.size ≤ 281474976710656) (h4 : e.text.size ≤ 281474976710656) :
    Calls Tryz.prog 91 #[e.val] w fun r w' => BoolIs (goodE e) r ∧ Below w.heap.size w w' := by
  have k1 := fun W => label_any' e.node W h1
  have k2 := fun W => label_any' e.alias W h2
  obtain ⟨G, hG⟩ : ∃ G, goodE e = G := ⟨_, rfl⟩
  have hG' := hG
  unfold goodE aliveOk at hG'
  rw [hG]
  clear hG
  obtain ⟨kind, node, inc, addr, port, text, al⟩ := e
  simp only at h1 h2 h3 h4 k1 k2 hG'
  obtain ⟨Ln, hLn⟩ : ∃ L, labelOk node = L := ⟨_, rfl⟩
  obtain ⟨La, hLa⟩ : ∃ L, labelOk al = L := ⟨_, rfl⟩
  rw [hLn] at k1 hG'
  rw [hLa] at k2 hG'
  have HG := hide hG'
  have K1 := hide k1
  have K2 := hide k2
  clear k1 k2 hG' hLn hLa
  have hb : ∀ O n, Below w.heap.size w ((w.alloc O).drewN n) := fun O n => ⟨rfl, rfl, rfl, by simp, fun k hk => heap_alloc_old w O hk⟩
  have hb0 : ∀ O, Below w.heap.size w (w.alloc O) := fun O => (Below.refl _ _).alloc (Nat.le_refl _) O
  have HB := hide hb
  have HB0 := hide hb0
  clear hb hb0
  unfold Ev.val
  go_enter Tryz.func91, Tryz.ntmps91
  go_wp2_with fail
  refine (unhide K1 _).mono ?_
  rintro e w1 ⟨⟨b, rfl, hbn⟩, rfl⟩
  have HN := hide hbn
  clear hbn K1
  cases b with
  | false =>
    go_wp2_with fail
    go_ret
    refine ⟨⟨_, rfl, ⟨fun h => by simp at h, fun h => ?_⟩⟩, unhide HB0 _⟩
    rw [← unhide HG] at h
    exact absurd ((unhide HN).2 h.1) (by simp)
  | true =>
    by_cases c1 : inc < 0
    · go_wp2_with fail
      go_ret
      refine ⟨⟨_, rfl, ⟨fun h => by simp at h, fun h => ?_⟩⟩, unhide HB0 _⟩
      rw [← unhide HG] at h
      exact absurd h.2.1 (by omega)
    · by_cases c2 : 2147483647 < inc
      · go_wp2_with fail
        go_ret
        refine ⟨⟨_, rfl, ⟨fun h => by simp at h, fun h => ?_⟩⟩, unhide HB0 _⟩
        rw [← unhide HG] at h
        exact absurd h.2.2.1 (by omega)
      · by_cases c3 : kind = 1
        · subst c3
          by_cases c3 : al = ⟨#[]⟩
          · have e3 : al.toList.isEmpty = true := (empty_iff al).2 c3
            have AL : Hid (al = ⟨#[]⟩ ∨ La) := .inl c3
            clear c3
            by_cases c4 : addr.size = 4
            · have d4 : ((addr.size : Int) == 4) = true := by rw [beq_iff_eq]; omega
              have HAD : addr.size = 4 ∨ addr.size = 16 := .inl c4
              by_cases c6 : port < 0
              · have d6 : decide ((0 : Int) ≤ port) = false := decide_eq_false (by omega)
                go_wp2_with fail
                go_ret
                refine ⟨⟨_, rfl, ⟨fun h => by simp at h, fun h => ?_⟩⟩, unhide HB0 _⟩
                rw [← unhide HG] at h
                obtain ⟨_, _, _, h | ⟨_, ha, hd, hp1, hp2, ht⟩⟩ := h
                · exact absurd h (by decide)
                · exact absurd hp1 (by omega)
              · have d6 : decide ((0 : Int) ≤ port) = true := decide_eq_true (by omega)
                by_cases c7 : 65535 < port
                · have d7 : decide (port ≤ (65535 : Int)) = false := decide_eq_false (by omega)
                  go_wp2_with fail
                  go_ret
                  refine ⟨⟨_, rfl, ⟨fun h => by simp at h, fun h => ?_⟩⟩, unhide HB0 _⟩
                  rw [← unhide HG] at h
                  obtain ⟨_, _, _, h | ⟨_, ha, hd, hp1, hp2, ht⟩⟩ := h
                  · exact absurd h (by decide)
                  · exact absurd hp2 (by omega)
                · have d7 : decide (port ≤ (65535 : Int)) = true := decide_eq_true (by omega)
                  by_cases c8 : text.size ≤ 60
                  · have d8 : decide ((text.size : Int) ≤ 60) = true := decide_eq_true (by omega)
                    go_wp2_with fail
                    go_ret
                    refine ⟨⟨_, rfl, ⟨fun _ => ?_, fun _ => by simp⟩⟩, unhide HB0 _⟩
                    rw [← unhide HG]
                    exact ⟨(unhide HN).1 (by simp), by omega, by omega, .inr ⟨by simp, unhide AL, HAD, by omega, by omega, c8⟩⟩
                  · have d8 : decide ((text.size : Int) ≤ 60) = false := decide_eq_false (by omega)
                    go_wp2_with fail
                    go_ret
                    refine ⟨⟨_, rfl, ⟨fun h => by simp at h, fun h => ?_⟩⟩, unhide HB0 _⟩
                    rw [← unhide HG] at h
                    obtain ⟨_, _, _, h | ⟨_, ha, hd, hp1, hp2, ht⟩⟩ := h
                    · exact absurd h (by decide)
                    · exact absurd ht c8
            · have d4 : ((addr.size : Int) == 4) = false := beq_eq_false_iff_ne.2 (by omega)
              by_cases c5 : addr.size = 16
              · have d5 : ((addr.size : Int) == 16) = true := by rw [beq_iff_eq]; omega
                have HAD : addr.size = 4 ∨ addr.size = 16 := .inr c5
                by_cases c6 : port < 0
                · have d6 : decide ((0 : Int) ≤ port) = false := decide_eq_false (by omega)
                  go_wp2_with fail
                  go_ret
                  refine ⟨⟨_, rfl, ⟨fun h => by simp at h, fun h => ?_⟩⟩, unhide HB0 _⟩
                  rw [← unhide HG] at h
                  obtain ⟨_, _, _, h | ⟨_, ha, hd, hp1, hp2, ht⟩⟩ := h
                  · exact absurd h (by decide)
                  · exact absurd hp1 (by omega)
                · have d6 : decide ((0 : Int) ≤ port) = true := decide_eq_true (by omega)
                  by_cases c7 : 65535 < port
                  · have d7 : decide (port ≤ (65535 : Int)) = false := decide_eq_false (by omega)
                    go_wp2_with fail
                    go_ret
                    refine ⟨⟨_, rfl, ⟨fun h => by simp at h, fun h => ?_⟩⟩, unhide HB0 _⟩
                    rw [← unhide HG] at h
                    obtain ⟨_, _, _, h | ⟨_, ha, hd, hp1, hp2, ht⟩⟩ := h
                    · exact absurd h (by decide)
                    · exact absurd hp2 (by omega)
                  · have d7 : decide (port ≤ (65535 : Int)) = true := decide_eq_true (by omega)
                    by_cases c8 : text.size ≤ 60
                    · have d8 : decide ((text.size : Int) ≤ 60) = true := decide_eq_true (by omega)
                      go_wp2_with fail
                      go_ret
                      refine ⟨⟨_, rfl, ⟨fun _ => ?_, fun _ => by simp⟩⟩, unhide HB0 _⟩
                      rw [← unhide HG]
                      exact ⟨(unhide HN).1 (by simp), by omega, by omega, .inr ⟨by simp, unhide AL, HAD, by omega, by omega, c8⟩⟩
                    · have d8 : decide ((text.size : Int) ≤ 60) = false := decide_eq_false (by omega)
                      go_wp2_with fail
                      go_ret
                      refine ⟨⟨_, rfl, ⟨fun h => by simp at h, fun h => ?_⟩⟩, unhide HB0 _⟩
                      rw [← unhide HG] at h
                      obtain ⟨_, _, _, h | ⟨_, ha, hd, hp1, hp2, ht⟩⟩ := h
                      · exact absurd h (by decide)
                      · exact absurd ht c8
              · have d5 : ((addr.size : Int) == 16) = false := beq_eq_false_iff_ne.2 (by omega)
                go_wp2_with fail
                go_ret
                refine ⟨⟨_, rfl, ⟨fun h => by simp at h, fun h => ?_⟩⟩, unhide HB0 _⟩
                rw [← unhide HG] at h
                obtain ⟨_, _, _, h | ⟨_, ha, hd, hp1, hp2, ht⟩⟩ := h
                · exact absurd h (by decide)
                · rcases hd with hd | hd
                  · exact absurd hd c4
                  · exact absurd hd c5
          · have e3 : al.toList.isEmpty = false := by
              cases e : al.toList.isEmpty with
              | false => rfl
              | true => exact absurd ((empty_iff al).1 e) c3
            go_wp2_with fail
            refine (unhide K2 _).mono ?_
            rintro e w1 ⟨⟨b, rfl, hba⟩, rfl⟩
            have HA := hide hba
            have C3 := hide c3
            clear hba c3
            cases b with
            | false =>
              go_wp2_with fail
              all_goals go_ret
              all_goals
                refine ⟨⟨_, rfl, ⟨fun h => by simp at h, fun h => ?_⟩⟩, unhide HB0 _⟩
                rw [← unhide HG] at h
                obtain ⟨_, _, _, h | ⟨_, ha, hd, hp1, hp2, ht⟩⟩ := h
                · exact absurd h (by decide)
                · rcases ha with ha | ha
                  · exact absurd ha (unhide C3)
                  · exact absurd ((unhide HA).2 ha) (by simp)
            | true =>
              have AL : Hid (al = ⟨#[]⟩ ∨ La) := .inr ((unhide HA).1 rfl)
              by_cases c4 : addr.size = 4
              · have d4 : ((addr.size : Int) == 4) = true := by rw [beq_iff_eq]; omega
                have HAD : addr.size = 4 ∨ addr.size = 16 := .inl c4
                by_cases c6 : port < 0
                · have d6 : decide ((0 : Int) ≤ port) = false := decide_eq_false (by omega)
                  go_wp2_with fail
                  go_ret
                  refine ⟨⟨_, rfl, ⟨fun h => by simp at h, fun h => ?_⟩⟩, unhide HB0 _⟩
                  rw [← unhide HG] at h
                  obtain ⟨_, _, _, h | ⟨_, ha, hd, hp1, hp2, ht⟩⟩ := h
                  · exact absurd h (by decide)
                  · exact absurd hp1 (by omega)
                · have d6 : decide ((0 : Int) ≤ port) = true := decide_eq_true (by omega)
                  by_cases c7 : 65535 < port
                  · have d7 : decide (port ≤ (65535 : Int)) = false := decide_eq_false (by omega)
                    go_wp2_with fail
                    go_ret
                    refine ⟨⟨_, rfl, ⟨fun h => by simp at h, fun h => ?_⟩⟩, unhide HB0 _⟩
                    rw [← unhide HG] at h
                    obtain ⟨_, _, _, h | ⟨_, ha, hd, hp1, hp2, ht⟩⟩ := h
                    · exact absurd h (by decide)
                    · exact absurd hp2 (by omega)
                  · have d7 : decide (port ≤ (65535 : Int)) = true := decide_eq_true (by omega)
                    by_cases c8 : text.size ≤ 60
                    · have d8 : decide ((text.size : Int) ≤ 60) = true := decide_eq_true (by omega)
                      go_wp2_with fail
                      go_ret
                      refine ⟨⟨_, rfl, ⟨fun _ => ?_, fun _ => by simp⟩⟩, unhide HB0 _⟩
                      rw [← unhide HG]
                      exact ⟨(unhide HN).1 (by simp), by omega, by omega, .inr ⟨by simp, unhide AL, HAD, by omega, by omega, c8⟩⟩
                    · have d8 : decide ((text.size : Int) ≤ 60) = false := decide_eq_false (by omega)
                      go_wp2_with fail
                      go_ret
                      refine ⟨⟨_, rfl, ⟨fun h => by simp at h, fun h => ?_⟩⟩, unhide HB0 _⟩
                      rw [← unhide HG] at h
                      obtain ⟨_, _, _, h | ⟨_, ha, hd, hp1, hp2, ht⟩⟩ := h
                      · exact absurd h (by decide)
                      · exact absurd ht c8
              · have d4 : ((addr.size : Int) == 4) = false := beq_eq_false_iff_ne.2 (by omega)
                by_cases c5 : addr.size = 16
                · have d5 : ((addr.size : Int) == 16) = true := by rw [beq_iff_eq]; omega
                  have HAD : addr.size = 4 ∨ addr.size = 16 := .inr c5
                  by_cases c6 : port < 0
                  · have d6 : decide ((0 : Int) ≤ port) = false := decide_eq_false (by omega)
                    go_wp2_with fail
                    go_ret
                    refine ⟨⟨_, rfl, ⟨fun h => by simp at h, fun h => ?_⟩⟩, unhide HB0 _⟩
                    rw [← unhide HG] at h
                    obtain ⟨_, _, _, h | ⟨_, ha, hd, hp1, hp2, ht⟩⟩ := h
                    · exact absurd h (by decide)
                    · exact absurd hp1 (by omega)
                  · have d6 : decide ((0 : Int) ≤ port) = true := decide_eq_true (by omega)
                    by_cases c7 : 65535 < port
                    · have d7 : decide (port ≤ (65535 : Int)) = false := decide_eq_false (by omega)
                      go_wp2_with fail
                      go_ret
                      refine ⟨⟨_, rfl, ⟨fun h => by simp at h, fun h => ?_⟩⟩, unhide HB0 _⟩
                      rw [← unhide HG] at h
                      obtain ⟨_, _, _, h | ⟨_, ha, hd, hp1, hp2, ht⟩⟩ := h
                      · exact absurd h (by decide)
                      · exact absurd hp2 (by omega)
                    · have d7 : decide (port ≤ (65535 : Int)) = true := decide_eq_true (by omega)
                      by_cases c8 : text.size ≤ 60
                      · have d8 : decide ((text.size : Int) ≤ 60) = true := decide_eq_true (by omega)
                        go_wp2_with fail
                        go_ret
                        refine ⟨⟨_, rfl, ⟨fun _ => ?_, fun _ => by simp⟩⟩, unhide HB0 _⟩
                        rw [← unhide HG]
                        exact ⟨(unhide HN).1 (by simp), by omega, by omega, .inr ⟨by simp, unhide AL, HAD, by omega, by omega, c8⟩⟩
                      · have d8 : decide ((text.size : Int) ≤ 60) = false := decide_eq_false (by omega)
                        go_wp2_with fail
                        go_ret
                        refine ⟨⟨_, rfl, ⟨fun h => by simp at h, fun h => ?_⟩⟩, unhide HB0 _⟩
                        rw [← unhide HG] at h
                        obtain ⟨_, _, _, h | ⟨_, ha, hd, hp1, hp2, ht⟩⟩ := h
                        · exact absurd h (by decide)
                        · exact absurd ht c8
                · have d5 : ((addr.size : Int) == 16) = false := beq_eq_false_iff_ne.2 (by omega)
                  go_wp2_with fail
                  go_ret
                  refine ⟨⟨_, rfl, ⟨fun h => by simp at h, fun h => ?_⟩⟩, unhide HB0 _⟩
                  rw [← unhide HG] at h
                  obtain ⟨_, _, _, h | ⟨_, ha, hd, hp1, hp2, ht⟩⟩ := h
                  · exact absurd h (by decide)
                  · rcases hd with hd | hd
                    · exact absurd hd c4
                    · exact absurd hd c5
        · have c3' : (kind == 1) = false := beq_eq_false_iff_ne.2 c3
          go_wp2_with fail
          go_ret
          refine ⟨⟨_, rfl, ?_⟩, unhide HB0 _⟩
          rw [← unhide HG]
          simp only [beq_iff_eq]
          constructor
          · exact fun h => ⟨(unhide HN).1 (by simp), by omega, by omega, .inl h⟩
          · rintro ⟨_, _, _, h | h⟩
            · exact h
            · exact absurd h.1 c3

end Go.Proofs.YtdhobdmhnocbgaaGreat
