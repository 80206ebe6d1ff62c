/-
  Walks over the document's own answer: which messages are well made (wellRecord, wellPart).
-/
import Derived.Test.YtgpgllbakfgocaaRwA
import Derived.Test.YtgpgllbakfgocaaWellY
namespace Go.Proofs.Ytgpgllbakfgocaa
open Go.RowKit Zr

set_option maxRecDepth 100000 in
set_option maxHeartbeats 1000000 in
theorem wellRecord_any (x : RI) (w : World) (hn : x.name.size ≤ 281474976710656) :
    Calls Try.prog 73 #[rValI x] w fun e w' => BoolIs (recOk x) e ∧ Below w.heap.size w w' := by
  unfold rValI
  have HR : Hid (recOk x ↔ wholeB x.name = true ∧ wordOk x.ty ∧ wordOk x.cl ∧ (0 ≤ x.ttl ∧ x.ttl ≤ 4294967295) ∧ wellD x.ty.toNat x.data) := Iff.rfl
  unfold wordOk at HR
  generalize recOk x = ok at *
  obtain ⟨nm, ty, cl, ttl, dt⟩ := x
  simp only at hn HR ⊢
  have key := fun w => whole_any nm w hn
  have Key := hide key
  clear key
  generalize wholeB nm = bn at *
  have hB1 : ∀ o, Below w.heap.size w (w.alloc o) := fun o => (Below.refl _ _).alloc (Nat.le_refl _) _
  have HB1 := hide hB1
  clear hB1
  go_enter Try.func73, Try.ntmps73
  go_wp2_with fail
  refine (unhide Key _).mono ?_
  rintro e w1 ⟨rfl, hw1⟩
  rw [hw1]
  clear hw1 w1
  go_wp2_with fail
  refine (wellData_any ty dt _).mono ?_
  rintro e w1 ⟨⟨bd, rfl, hd⟩, hw1⟩
  have HD := hide hd
  rw [hw1]
  clear hw1 w1 hd
  go_wp2_with fail
  refine (refWord_any ty 65535 _).mono ?_
  rintro e w1 ⟨⟨bt, rfl, ht⟩, hw1⟩
  have HT := hide ht
  rw [hw1]
  clear hw1 w1 ht
  go_wp2_with fail
  refine (refWord_any cl 65535 _).mono ?_
  rintro e w1 ⟨⟨bc, rfl, hc⟩, hw1⟩
  have HC := hide hc
  rw [hw1]
  clear hw1 w1 hc
  go_wp2_with fail
  refine (refWord_any ttl 4294967295 _).mono ?_
  rintro e w1 ⟨⟨bl, rfl, hl⟩, hw1⟩
  have HL := hide hl
  rw [hw1]
  clear hw1 w1 hl Key
  cases bn with
  | false =>
    go_wp2_with fail
    go_ret
    exact ⟨⟨_, rfl, ⟨fun h => by simp at h, fun h => absurd ((unhide HR).1 h).1 (by simp)⟩⟩, unhide HB1 _⟩
  | true =>
    cases bt with
    | false =>
      cases bd with
      | false =>
        go_wp2_with fail
        go_ret
        exact ⟨⟨_, rfl, ⟨fun h => by simp at h, fun h => absurd ((unhide HT).2 ((unhide HR).1 h).2.1) (by simp)⟩⟩, unhide HB1 _⟩
      | true =>
        go_wp2_with fail
        go_ret
        exact ⟨⟨_, rfl, ⟨fun h => by simp at h, fun h => absurd ((unhide HT).2 ((unhide HR).1 h).2.1) (by simp)⟩⟩, unhide HB1 _⟩
    | true =>
      have hty := (unhide HT).1 (by simp)
      have hD := unhide HD hty.1
      have HD2 := hide hD
      have HTy := hide hty
      clear hD hty HD
      cases bd with
      | false =>
        go_wp2_with fail
        go_ret
        exact ⟨⟨_, rfl, ⟨fun h => by simp at h, fun h => absurd ((unhide HD2).2 ((unhide HR).1 h).2.2.2.2) (by simp)⟩⟩, unhide HB1 _⟩
      | true =>
        cases bc with
        | false =>
          go_wp2_with fail
          go_ret
          exact ⟨⟨_, rfl, ⟨fun h => by simp at h, fun h => absurd ((unhide HC).2 ((unhide HR).1 h).2.2.1) (by simp)⟩⟩, unhide HB1 _⟩
        | true =>
          go_wp2_with fail
          go_ret
          refine ⟨⟨_, rfl, ?_⟩, unhide HB1 _⟩
          rw [unhide HL, unhide HR]
          exact ⟨fun h => ⟨by simp, unhide HTy, (unhide HC).1 (by simp), h, (unhide HD2).1 (by simp)⟩, fun h => h.2.2.2.1⟩

set_option maxRecDepth 100000 in
set_option maxHeartbeats 1000000 in
theorem misplacedI_any (l : List RI) (x : RI) (part : Nat) (a : Option Addr) (c N : Nat) (w : World) (hrow : RowAt w N a (rcI l)) (hN : N ≤ w.heap.size) (hl : l.length ≤ 65535) :
    Calls Try.prog 43 #[.slice a l.length c, .agg #[.string x.name, .int .i64 x.ty, .int .i64 x.cl, .int .i64 x.ttl, .string x.data], .int .i64 part] w fun e w' => BoolIs (misI l x part) e ∧ Below w.heap.size w w' := by
  have hB1 : ∀ o, Below w.heap.size w (w.alloc o) := fun o => (Below.refl _ _).alloc (Nat.le_refl _) _
  have HB1 := hide hB1
  clear hB1
  by_cases d : x.ty = 41
  · have d' : (x.ty != 41) = false := by simp [d]
    have hM : misI l x part ↔ ((∃ y, y ∈ l ∧ y.ty = 41) ∨ part ≠ 2 ∨ x.name ≠ ⟨#[0]⟩) := ⟨fun h => h.2, fun h => ⟨d, h⟩⟩
    have HM := hide hM
    have HRow := hide (fun W (hb : Below N w W) => hrow.below hb)
    clear d hM hrow
    generalize misI l x part = M at *
    go_enter Try.func43, Try.ntmps43
    go_wp2_with fail
    go_loop [7] (fun i => ∃ j : Nat, j ≤ l.length ∧ i = .int .i64 j ∧ Hid (∀ k (h : k < l.length), k < j → l[k].ty ≠ 41)) (fun i => l.length - (intOf i).toNat)
    case atStart => exact ⟨0, Nat.zero_le _, rfl, fun k _ h => by omega⟩
    case round =>
      obtain ⟨j, hj, rfl, hno⟩ := hrel
      by_cases c1 : j < l.length
      · obtain ⟨b, o, rfl, hb, x0, x1, x2, x3, x4⟩ := row_r (unhide HRow w (Below.refl _ _)) j c1
        clear x0 x2 x3 x4
        have x1 : ∀ B, (w.alloc B).cell? ⟨b, o + j * 5 + 1, none⟩ = some (.int .i64 l[j].ty) := fun B => ((unhide HB1 B).cell (p := ⟨b, o + j * 5 + 1, none⟩) (by show b < w.heap.size; omega)).trans x1
        generalize hty : l[j].ty = ty at x1
        by_cases c2 : ty = 41
        · have c2' : (ty == 41) = true := by rw [beq_iff_eq]; omega
          have hany : ∃ y, y ∈ l ∧ y.ty = 41 := ⟨l[j], List.getElem_mem c1, by rw [hty, c2]⟩
          have HA := hide hany
          clear hany c2 hty
          go_wp2_with fail
          go_ret
          exact ⟨⟨_, rfl, ⟨fun _ => (unhide HM).2 (.inl (unhide HA)), fun _ => rfl⟩⟩, unhide HB1 _⟩
        · have c2' : (ty == 41) = false := beq_eq_false_iff_ne.2 (by omega)
          have HT := hide hty
          have HC := hide c2
          clear hty c2
          go_wp2_with fail
          go_round
          case rel => exact ⟨j + 1, by omega, by go_num, fun k hk hlt => by
            by_cases hkj : k = j
            · subst hkj; rw [unhide HT]; exact unhide HC
            · exact unhide hno k hk (by omega)⟩
          case measure => simp [intOf]; omega
      · have hany : ¬ ∃ y, y ∈ l ∧ y.ty = 41 := by
          intro ⟨y, hy, hy2⟩
          obtain ⟨k, hk, rfl⟩ := List.getElem_of_mem hy
          exact unhide hno k hk (by omega) hy2
        have HA := hide hany
        clear hany
        have HB := hide (root_eqb x.name)
        by_cases c3 : part = 2
        · subst c3
          go_wp2_with fail
          go_ret
          refine ⟨⟨_, rfl, ?_⟩, unhide HB1 _⟩
          rw [unhide HM, unhide HB]
          simp [unhide HA]
        · have c3' : ((part : Int) != 2) = true := by rw [bne_iff_ne]; omega
          have HC := hide c3
          clear c3
          go_wp2_with fail
          go_ret
          exact ⟨⟨_, rfl, ⟨fun _ => (unhide HM).2 (.inr (.inl (unhide HC))), fun _ => rfl⟩⟩, unhide HB1 _⟩
  · have d' : (x.ty != 41) = true := by rw [bne_iff_ne]; exact d
    have HM : Hid (¬ misI l x part) := fun h => d h.1
    clear d hrow
    go_enter Try.func43, Try.ntmps43
    go_wp2_with fail
    go_ret
    exact ⟨⟨_, rfl, ⟨fun h => by simp at h, fun h => absurd h (unhide HM)⟩⟩, unhide HB1 _⟩

end Go.Proofs.Ytgpgllbakfgocaa
