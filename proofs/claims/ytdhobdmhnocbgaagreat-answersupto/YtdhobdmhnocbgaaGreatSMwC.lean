/-
  Walks: the mesh: a node's name; good news.
-/
/-
  Walks: the mesh: good news.
-/
/-
  Walks: which of two counts rather: the program's, the document's.
-/
import Derived.Test.YtdhobdmhnocbgaaGreatSZwA
import Derived.Test.YtdhobdmhnocbgaaGreatSMeC
namespace Go.Proofs.YtdhobdmhnocbgaaGreat
open Go.RowKit Zr

set_option maxHeartbeats 1000000 in
theorem letter_m (c : Nat) (w : World) : Calls Tryz.prog 155 #[.int .u8 c] w fun e w' => BoolIs (labC c) e ∧ w' = w := by
  rcases seven c with h | h | h | h | h | h | h
  all_goals
    (first | have d1 : decide ((97 : Int) ≤ (c : Int)) = true := decide_eq_true (by omega) | have d1 : decide ((97 : Int) ≤ (c : Int)) = false := decide_eq_false (by omega))
    (first | have d2 : decide ((c : Int) ≤ (122 : Int)) = true := decide_eq_true (by omega) | have d2 : decide ((c : Int) ≤ (122 : Int)) = false := decide_eq_false (by omega))
    (first | have d3 : decide ((48 : Int) ≤ (c : Int)) = true := decide_eq_true (by omega) | have d3 : decide ((48 : Int) ≤ (c : Int)) = false := decide_eq_false (by omega))
    (first | have d4 : decide ((c : Int) ≤ (57 : Int)) = true := decide_eq_true (by omega) | have d4 : decide ((c : Int) ≤ (57 : Int)) = false := decide_eq_false (by omega))
    (first | have d5 : ((c : Int) == (45 : Int)) = false := beq_eq_false_iff_ne.2 (by omega) | have d5 : ((c : Int) == (45 : Int)) = true := by rw [beq_iff_eq]; omega)
    have H := hide h
    clear h
    go_enter Tryz.func155, Tryz.ntmps155
    go_wp2_with fail
    go_ret
    refine ⟨⟨_, rfl, ?_⟩, rfl⟩
    have hh := unhide H
    unfold labC
    first
      | exact ⟨fun _ => by omega, fun _ => rfl⟩
      | exact ⟨fun h => by simp at h, fun h => by omega⟩

set_option maxRecDepth 100000 in
set_option maxHeartbeats 1000000 in
theorem label_m (s : ByteArray) (w : World) (hs : s.size ≤ 281474976710656) :
    Calls Tryz.prog 133 #[.string s] w fun e w' => BoolIs (labelOk s) e ∧ w' = w := by
  by_cases c0 : s.size = 0
  · have e0 : s.toList.isEmpty = true := by rw [bytes_isEmpty]; exact decide_eq_true c0
    have HC : Hid (¬ labelOk s) := hide fun h => by have := h.2.1; omega
    clear c0
    go_enter Tryz.func133, Tryz.ntmps133
    go_wp2_with fail
    all_goals go_ret
    all_goals exact ⟨⟨_, rfl, ⟨fun h => by simp at h, fun h => absurd h (unhide HC)⟩⟩, rfl⟩
  · have e0 : s.toList.isEmpty = false := by rw [bytes_isEmpty]; exact decide_eq_false c0
    by_cases c1 : 15 < s.size
    · have HC : Hid (¬ labelOk s) := hide fun h => by have := h.2.2; omega
      go_enter Tryz.func133, Tryz.ntmps133
      go_wp2_with fail
      go_ret
      exact ⟨⟨_, rfl, ⟨fun h => by simp at h, fun h => absurd h (unhide HC)⟩⟩, rfl⟩
    · go_enter Tryz.func133, Tryz.ntmps133
      go_wp2_with fail
      go_loop [3] (fun i => ∃ j : Nat, j ≤ s.size ∧ i = .int .i64 j ∧ Hid (∀ m, m < j → labC (bt s m))) (fun i => s.size - (intOf i).toNat)
      case atStart => exact ⟨0, Nat.zero_le _, rfl, hide fun m hm => by omega⟩
      case round =>
        obtain ⟨j, hj, rfl, HL⟩ := hrel
        by_cases cj : j < s.size
        · have hg := bt_get s j cj
          have HN : Hid (¬ labC (bt s j) → ¬ labelOk s) := hide fun h1 h2 => h1 (h2.1 j cj)
          have HY : Hid (labC (bt s j) → ∀ m, m < j + 1 → labC (bt s m)) := hide fun h1 m hm => by
            rcases Nat.lt_or_ge m j with k | k
            · exact unhide HL m k
            · have : m = j := by omega
              subst this
              exact h1
          generalize bt s j = c at *
          go_wp2_with fail
          refine (letter_m c _).mono ?_
          rintro e w' ⟨⟨b, rfl, hb⟩, rfl⟩
          have HB := hide hb
          clear hb
          cases b with
          | false =>
            go_wp2_with fail
            go_ret
            exact ⟨⟨_, rfl, ⟨fun h => by simp at h, fun h => absurd h (unhide HN fun h2 => absurd ((unhide HB).2 h2) (by simp))⟩⟩, rfl⟩
          | true =>
            go_wp2_with fail
            go_round
            case rel => exact ⟨j + 1, by omega, by go_num, hide (unhide HY ((unhide HB).1 (by simp)))⟩
            case measure => simp [intOf]; omega
        · have e : j = s.size := by omega
          subst e
          go_wp2_with fail
          go_ret
          exact ⟨⟨_, rfl, ⟨fun _ => ⟨unhide HL, by omega, by omega⟩, fun _ => rfl⟩⟩, rfl⟩

end Go.Proofs.YtdhobdmhnocbgaaGreat

namespace Go.Proofs.YtdhobdmhnocbgaaGreat
open Go.RowKit Zr

set_option maxRecDepth 100000 in
set_option maxHeartbeats 2000000 in
theorem host_m (e : Ev) (w : World) (h2 : e.alias.size ≤ 281474976710656) (h3 : e.addr.size ≤ 281474976710656) (h4 : e.text.size ≤ 281474976710656) :
    Calls Tryz.prog 134 #[e.val] w fun r w' => BoolIs (aliveOk e) r ∧ Below w.heap.size w w' := by
  have k2 := fun W => label_m e.alias W h2
  obtain ⟨G, hG⟩ : ∃ G, aliveOk e = G := ⟨_, rfl⟩
  have hG' := hG
  unfold aliveOk at hG'
  rw [hG]
  clear hG
  obtain ⟨kind, node, inc, addr, port, text, al⟩ := e
  simp only at h2 h3 h4 k2 hG'
  obtain ⟨La, hLa⟩ : ∃ L, labelOk al = L := ⟨_, rfl⟩
  rw [hLa] at k2 hG'
  have HG := hide hG'
  have K2 := hide k2
  clear k2 hG' hLa
  unfold Ev.val
  have HB0 : Hid (∀ O, Below w.heap.size w (w.alloc O)) := hide fun O => (Below.refl _ _).alloc (Nat.le_refl _) O
  have HE := hide (empty_iff al)
  have hcase : (((addr.size : Int) == 4) = true ∧ (addr.size = 4 ∨ addr.size = 16)) ∨ (((addr.size : Int) == 4) = false ∧ ((addr.size : Int) == 16) = true ∧ (addr.size = 4 ∨ addr.size = 16)) ∨ (((addr.size : Int) == 4) = false ∧ ((addr.size : Int) == 16) = false ∧ ¬ (addr.size = 4 ∨ addr.size = 16)) := by
    by_cases c4 : addr.size = 4
    · exact .inl ⟨by rw [beq_iff_eq]; omega, .inl c4⟩
    · by_cases c5 : addr.size = 16
      · exact .inr (.inl ⟨beq_eq_false_iff_ne.2 (by omega), by rw [beq_iff_eq]; omega, .inr c5⟩)
      · exact .inr (.inr ⟨beq_eq_false_iff_ne.2 (by omega), beq_eq_false_iff_ne.2 (by omega), by omega⟩)
  have hal : (al.toList.isEmpty = true ∧ al = ⟨#[]⟩) ∨ (al.toList.isEmpty = false ∧ al ≠ ⟨#[]⟩) := by
    cases e : al.toList.isEmpty with
    | true => exact .inl ⟨rfl, (unhide HE).1 e⟩
    | false => exact .inr ⟨rfl, fun h => by rw [(unhide HE).2 h] at e; cases e⟩
  rcases hal with ⟨e1, e2⟩ | ⟨e1, e2⟩
  all_goals
    have E2 := hide e2
    clear e2
    rcases hcase with ⟨d4, h5⟩ | ⟨d4, d5, h5⟩ | ⟨d4, d5, h5⟩
    all_goals
      have H5 := hide h5
      clear h5
      go_enter Tryz.func134, Tryz.ntmps134
      go_wp2_with (go_at_call 133; refine (unhide K2 _).mono ?_; rintro e w1 ⟨⟨b, rfl, hb⟩, rfl⟩)
      all_goals go_ret
      all_goals
        refine ⟨⟨_, rfl, ?_⟩, unhide HB0 _⟩
        rw [← unhide HG]
        have u2 := unhide E2
        have u5 := unhide H5
        first
          | exact ⟨fun h => by simp at h, fun h => absurd h.2.1 u5⟩
          | exact ⟨fun h => by simp at h, fun h => by obtain ⟨_, _, h⟩ := h; omega⟩
          | (refine ⟨fun h => ⟨?_, u5, by omega, by omega, by omega⟩, fun h => ?_⟩
             · first | exact .inl u2 | exact .inr (hb.1 (by simpa using h))
             · first | rfl | exact hb.2 (h.1.resolve_left u2))

set_option maxRecDepth 100000 in
set_option maxHeartbeats 2000000 in
theorem good_m (e : Ev) (w : World) (h1 : e.node.size ≤ 281474976710656) (h2 : e.alias.size ≤ 281474976710656) (h3 : e.addr.size ≤ 281474976710656) (h4 : e.text.size ≤ 281474976710656) :
    Calls Tryz.prog 102 #[e.val] w fun r w' => BoolIs (goodE e) r ∧ Below w.heap.size w w' := by
  have k1 := fun W => label_m e.node W h1
  have k2 := fun W => host_m e W h2 h3 h4
  obtain ⟨G, hG⟩ : ∃ G, goodE e = G := ⟨_, rfl⟩
  have hG' := hG
  unfold goodE at hG'
  rw [hG]
  clear hG
  obtain ⟨A, hA⟩ : ∃ A, aliveOk e = A := ⟨_, rfl⟩
  rw [hA] at k2 hG'
  unfold Ev.val at k2 ⊢
  obtain ⟨kind, node, inc, addr, port, text, al⟩ := e
  simp only at h1 h2 h3 h4 k1 k2 hG' ⊢
  obtain ⟨Ln, hLn⟩ : ∃ L, labelOk node = L := ⟨_, rfl⟩
  rw [hLn] at k1 hG'
  have HG := hide hG'
  have K1 := hide k1
  have K2 := hide k2
  clear k1 k2 hG' hLn hA
  have HB0 : Hid (∀ O, Below w.heap.size w (w.alloc O)) := hide fun O => (Below.refl _ _).alloc (Nat.le_refl _) O
  have HB1 : Hid (∀ O w', Below (w.alloc O).heap.size (w.alloc O) w' → Below w.heap.size w w') := hide fun O w' h => ((Below.refl _ _).alloc (Nat.le_refl _) O).trans (h.mono (by simp))
  have hkind : ((kind == 2) = true ∧ kind = 2) ∨ ((kind == 2) = false ∧ (kind == 1) = true ∧ kind ≠ 2 ∧ kind = 1) ∨ ((kind == 2) = false ∧ (kind == 1) = false ∧ kind ≠ 2 ∧ kind ≠ 1) := by
    by_cases c4 : kind = 2
    · exact .inl ⟨by rw [beq_iff_eq]; omega, c4⟩
    · by_cases c5 : kind = 1
      · exact .inr (.inl ⟨beq_eq_false_iff_ne.2 (by omega), by rw [beq_iff_eq]; omega, c4, c5⟩)
      · exact .inr (.inr ⟨beq_eq_false_iff_ne.2 (by omega), beq_eq_false_iff_ne.2 (by omega), c4, c5⟩)
  rcases hkind with ⟨d4, h5⟩ | ⟨d4, d5, h5⟩ | ⟨d4, d5, h5⟩
  all_goals
    have H5 := hide h5
    clear h5
    go_enter Tryz.func102, Tryz.ntmps102
    go_wp2_with fail
    refine (unhide K1 _).mono ?_
    rintro e w1 ⟨⟨b, rfl, hb⟩, rfl⟩
    have HN := hide hb
    clear hb
    cases b
    · go_wp2_with fail
      go_ret
      refine ⟨⟨_, rfl, ?_⟩, unhide HB0 _⟩
      rw [← unhide HG]
      exact ⟨fun h => by simp at h, fun h => absurd ((unhide HN).2 h.1) (by simp)⟩
    · go_wp2_with (go_at_call 134; refine (unhide K2 _).mono ?_; rintro e w1 ⟨⟨b, rfl, hb⟩, hbel⟩)
      all_goals go_ret
      all_goals
        have u5 := unhide H5
        have un := (unhide HN).1 (by simp)
        first
          | (refine ⟨⟨_, rfl, ?_⟩, unhide HB0 _⟩
             rw [← unhide HG]
             first
               | exact ⟨fun h => by simp at h, fun h => by obtain ⟨_, h⟩ := h; omega⟩
               | exact ⟨fun _ => ⟨un, by omega, by omega, .inl u5⟩, fun _ => rfl⟩
               | exact ⟨fun h => by simp at h, fun h => by rcases h.2.2.2 with q | q; exact absurd q u5.1; exact absurd q.1 u5.2⟩)
          | (refine ⟨⟨_, rfl, ?_⟩, unhide HB1 _ _ hbel⟩
             rw [← unhide HG]
             refine ⟨fun h => ⟨un, by omega, by omega, .inr ⟨u5.2, hb.1 (by simpa using h)⟩⟩, fun h => ?_⟩
             rcases h.2.2.2 with q | q
             · exact absurd q u5.1
             · simpa using hb.2 q.2)

end Go.Proofs.YtdhobdmhnocbgaaGreat

namespace Go.Proofs.YtdhobdmhnocbgaaGreat
open Go.RowKit Zr

theorem gtS (x y : ByteArray) (h : x ≠ y) : ((!Op.bytesLess x.toList y.toList && !(x.toList == y.toList)) = true) ↔ ltS y x = true := by
  rw [bytes_eqb, decide_eq_false h]
  have e : Op.bytesLess x.toList y.toList = ltS x y := rfl
  rw [e]
  cases q : ltS x y with
  | true => rw [ltS_asymm q]; simp
  | false =>
    cases q2 : ltS y x with
    | true => simp
    | false => exact absurd (ltS_total q q2) h

theorem gtS' (x y : ByteArray) : ((!Op.bytesLess x.toList y.toList && !(x.toList == y.toList)) = true) ↔ ltS y x = true := by
  by_cases h : x = y
  · subst h
    rw [ltS_irrefl]
    simp
  · exact gtS x y h

theorem strs_eq {x y : ByteArray} (h : x = y) : (x.toList == y.toList) = true := by rw [bytes_eqb]; exact decide_eq_true h
theorem strs_ne {x y : ByteArray} (h : x ≠ y) : (x.toList == y.toList) = false := by rw [bytes_eqb]; exact decide_eq_false h
theorem ints_eq {x y : Int} (h : x = y) : (x != y) = false := by rw [bne_eq_false_iff_eq]; exact h
theorem ints_ne {x y : Int} (h : x ≠ y) : (x != y) = true := bne_iff_ne.2 h

theorem beats_inc {a b : Ev} (h : a.inc ≠ b.inc) : beatsE a b ↔ b.inc < a.inc := by unfold beatsE lexI; rw [if_pos h]
theorem beats_kind {a b : Ev} (h1 : a.inc = b.inc) (h : a.kind ≠ b.kind) : beatsE a b ↔ a.kind = 2 := by
  unfold beatsE lexI raKindB; rw [if_neg (by simpa using h1), if_pos h]
theorem beats_addr {a b : Ev} (h1 : a.inc = b.inc) (h2 : a.kind = b.kind) (h : a.addr ≠ b.addr) : beatsE a b ↔ ltS b.addr a.addr = true := by
  unfold beatsE lexI raKindB raAddr lexI; rw [if_neg (by simpa using h1), if_neg (by simpa using h2), if_pos h]
theorem beats_port {a b : Ev} (h1 : a.inc = b.inc) (h2 : a.kind = b.kind) (h3 : a.addr = b.addr) (h : a.port ≠ b.port) : beatsE a b ↔ b.port < a.port := by
  unfold beatsE lexI raKindB raAddr lexI raPort lexI; rw [if_neg (by simpa using h1), if_neg (by simpa using h2), if_neg (by simpa using h3), if_pos h]
theorem beats_text {a b : Ev} (h1 : a.inc = b.inc) (h2 : a.kind = b.kind) (h3 : a.addr = b.addr) (h4 : a.port = b.port) (h : a.text ≠ b.text) : beatsE a b ↔ ltS b.text a.text = true := by
  unfold beatsE lexI raKindB raAddr lexI raPort lexI raText lexI; rw [if_neg (by simpa using h1), if_neg (by simpa using h2), if_neg (by simpa using h3), if_neg (by simpa using h4), if_pos h]
theorem beats_alias {a b : Ev} (h1 : a.inc = b.inc) (h2 : a.kind = b.kind) (h3 : a.addr = b.addr) (h4 : a.port = b.port) (h5 : a.text = b.text) : beatsE a b ↔ ltS b.alias a.alias = true := by
  unfold beatsE lexI raKindB raAddr lexI raPort lexI raText lexI raAlias; rw [if_neg (by simpa using h1), if_neg (by simpa using h2), if_neg (by simpa using h3), if_neg (by simpa using h4), if_neg (by simpa using h5)]

theorem rather_gone {a b : Ev} (h1 : a.inc = b.inc) (h2 : a.kind = b.kind) (h : a.kind = 2) : ¬ ratherE a b := by
  unfold ratherE; rw [if_neg (by simpa using h1), if_neg (by simpa using h2), if_pos h]; exact id
theorem rather_beats {a b : Ev} (h : a.inc = b.inc → a.kind = b.kind → a.kind ≠ 2) : ratherE a b ↔ beatsE a b := by
  rw [rather_iff]
  unfold raInc lexI beatsE lexI raKind raKindB raGone
  by_cases h1 : a.inc = b.inc
  · by_cases h2 : a.kind = b.kind
    · have := h h1 h2
      rw [h2] at this
      simp [h1, h2, this]
    · simp [h1, h2]
  · simp [h1]

section
variable (w : World)
theorem two_below (O1 O2 : Obj) : Below w.heap.size w ((w.alloc O1).alloc O2) := ((Below.refl _ _).alloc (Nat.le_refl _) O1).alloc (by simp) O2
end

set_option maxRecDepth 100000 in
set_option maxHeartbeats 2000000 in
theorem beats_m (a b : Ev) (w : World) : Calls Tryz.prog 136 #[a.val, b.val] w fun r w' => BoolIs (beatsE a b) r ∧ Below w.heap.size w w' := by
  have HB : Hid (∀ O1 O2, Below w.heap.size w ((w.alloc O1).alloc O2)) := hide (two_below w)
  have b1 := @beats_inc a b
  have b2 := @beats_kind a b
  have b3 := @beats_addr a b
  have b4 := @beats_port a b
  have b5 := @beats_text a b
  have b6 := @beats_alias a b
  generalize beatsE a b = G at *
  obtain ⟨k1, n1, i1, a1, p1, t1, l1⟩ := a
  obtain ⟨k2, n2, i2, a2, p2, t2, l2⟩ := b
  unfold Ev.val
  simp only at b1 b2 b3 b4 b5 b6 ⊢
  by_cases c1 : i1 = i2
  · have e1 := ints_eq c1
    by_cases c2 : k1 = k2
    · have e2 := ints_eq c2
      by_cases c3 : a1 = a2
      · have e3 := strs_eq c3
        by_cases c4 : p1 = p2
        · have e4 := ints_eq c4
          by_cases c5 : t1 = t2
          · have e5 := strs_eq c5
            have hg := hide ((gtS' l1 l2).trans (b6 c1 c2 c3 c4 c5).symm)
            clear b1 b2 b3 b4 b5 b6 c1 c2 c3 c4 c5
            go_enter Tryz.func136, Tryz.ntmps136
            go_wp2_with fail
            go_ret
            exact ⟨⟨_, rfl, unhide hg⟩, unhide HB _ _⟩
          · have e5 := strs_ne c5
            have hg := hide ((gtS' t1 t2).trans (b5 c1 c2 c3 c4 c5).symm)
            clear b1 b2 b3 b4 b5 b6 c1 c2 c3 c4 c5
            go_enter Tryz.func136, Tryz.ntmps136
            go_wp2_with fail
            go_ret
            refine ⟨⟨_, rfl, ?_⟩, unhide HB _ _⟩
            rw [← unhide hg]
            simp [e5]
        · have e4 := ints_ne c4
          have hg := hide (b4 c1 c2 c3 c4)
          clear b1 b2 b3 b4 b5 b6 c1 c2 c3 c4
          go_enter Tryz.func136, Tryz.ntmps136
          go_wp2_with fail
          go_ret
          refine ⟨⟨_, rfl, ?_⟩, unhide HB _ _⟩
          rw [unhide hg]
          simp
      · have e3 := strs_ne c3
        have hg := hide ((gtS' a1 a2).trans (b3 c1 c2 c3).symm)
        clear b1 b2 b3 b4 b5 b6 c1 c2 c3
        go_enter Tryz.func136, Tryz.ntmps136
        go_wp2_with fail
        go_ret
        refine ⟨⟨_, rfl, ?_⟩, unhide HB _ _⟩
        rw [← unhide hg]
        simp [e3]
    · have e2 := ints_ne c2
      have hg := hide (b2 c1 c2)
      clear b1 b2 b3 b4 b5 b6 c1 c2
      go_enter Tryz.func136, Tryz.ntmps136
      go_wp2_with fail
      go_ret
      refine ⟨⟨_, rfl, ?_⟩, unhide HB _ _⟩
      rw [unhide hg]
      simp
  · have e1 := ints_ne c1
    have hg := hide (b1 c1)
    clear b1 b2 b3 b4 b5 b6 c1
    go_enter Tryz.func136, Tryz.ntmps136
    go_wp2_with fail
    go_ret
    refine ⟨⟨_, rfl, ?_⟩, unhide HB _ _⟩
    rw [unhide hg]
    simp

end Go.Proofs.YtdhobdmhnocbgaaGreat
