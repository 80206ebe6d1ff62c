/-
  Walks: which messages are well made (isRecord, areQuestions, areRecords, isMessage).
-/
import Derived.Test.YtdhobdmhnocbgaaSWellW
import Derived.Test.YtdhobdmhnocbgaaSMsgW
namespace Go.Proofs.Ytdhobdmhnocbgaa
open Go.RowKit Zr

def qValI (q : QI) : Value := .agg #[.string q.name, .int .i64 q.ty, .int .i64 q.cl]
def rValI (x : RI) : Value := .agg #[.string x.name, .int .i64 x.ty, .int .i64 x.cl, .int .i64 x.ttl, .string x.data]

theorem alloc_box {w w1 : World} {o : Obj} (hb : Below (w.alloc o).heap.size (w.alloc o) w1) : w1.heap[w.heap.size]? = some o ∧ Below w.heap.size w w1 :=
  ⟨(hb.block w.heap.size (by simp)).trans (heap_alloc_new _ _), ((Below.refl _ _).alloc (Nat.le_refl _) _).trans (hb.mono (by simp))⟩

set_option maxRecDepth 100000 in
set_option maxHeartbeats 1000000 in
theorem isRecord_any (x : RI) (w : World) (hn : x.name.size ≤ 281474976710656) :
    Calls Try.prog 151 #[rValI x] w fun e w' => BoolIs (recOk x) e ∧ Below w.heap.size w w' := by
  unfold rValI
  obtain ⟨nm, ty, cl, ttl, dt⟩ := x
  simp only at hn ⊢
  go_enter Try.func151, Try.ntmps151
  go_wp2_with fail
  refine (isName_any nm _ hn).mono ?_
  rintro e w1 ⟨⟨b, rfl, hb⟩, hbw⟩
  obtain ⟨hbox, hbel⟩ := alloc_box hbw
  clear hbw
  have HB := hide hb
  clear hb
  obtain ⟨⟨b0, b1, b2, b3, b4⟩, y0, y1, y2, y3, y4⟩ := cells5 hbox
  have HX := hide hbox
  clear hbox
  cases b with
  | false =>
    go_wp2_with fail
    go_ret
    exact ⟨⟨_, rfl, ⟨fun h => by simp at h, fun h => absurd (unhide HB |>.2 h.1) (by simp)⟩⟩, hbel⟩
  | true =>
    go_wp2_with fail
    refine (isWord_any ty _).mono ?_
    rintro e w2 ⟨⟨b, rfl, hb⟩, rfl⟩
    have HB2 := hide hb
    clear hb
    cases b with
    | false =>
      go_wp2_with fail
      go_ret
      exact ⟨⟨_, rfl, ⟨fun h => by simp at h, fun h => absurd (unhide HB2 |>.2 h.2.1) (by simp)⟩⟩, hbel⟩
    | true =>
      go_wp2_with fail
      refine (isWord_any cl _).mono ?_
      rintro e w2 ⟨⟨b, rfl, hb⟩, rfl⟩
      have HB3 := hide hb
      clear hb
      cases b with
      | false =>
        go_wp2_with fail
        go_ret
        exact ⟨⟨_, rfl, ⟨fun h => by simp at h, fun h => absurd (unhide HB3 |>.2 h.2.2.1) (by simp)⟩⟩, hbel⟩
      | true =>
        by_cases c1 : 0 ≤ ttl
        · by_cases c2 : ttl ≤ 4294967295
          · have hty := (unhide HB2).1 (by simp)
            have hty0 := hty.1
            go_wp2_with fail
            refine (isData_any dt ty _ hty0).mono ?_
            rintro e w3 ⟨⟨b, rfl, hb⟩, hbw⟩
            have HB4 := hide hb
            clear hb
            have c2' := hide c2
            clear c2
            go_wp2_with fail
            go_ret
            refine ⟨⟨_, rfl, ?_⟩, hbel.trans (hbw.mono hbel.size)⟩
            rw [unhide HB4]
            exact ⟨fun h => ⟨(unhide HB).1 (by simp), (unhide HB2).1 (by simp), (unhide HB3).1 (by simp), ⟨c1, unhide c2'⟩, h⟩, fun h => h.2.2.2.2⟩
          · go_wp2_with fail
            go_ret
            exact ⟨⟨_, rfl, ⟨fun h => by simp at h, fun h => absurd (show ttl ≤ 4294967295 from h.2.2.2.1.2) (by omega)⟩⟩, hbel⟩
        · go_wp2_with fail
          go_ret
          exact ⟨⟨_, rfl, ⟨fun h => by simp at h, fun h => absurd (show 0 ≤ ttl from h.2.2.2.1.1) (by omega)⟩⟩, hbel⟩

/-- The cells of lists that are handed in. -/
def qcI (l : List QI) : List Value := l.flatMap fun q => [.string q.name, .int .i64 q.ty, .int .i64 q.cl]
def rcI (l : List RI) : List Value := l.flatMap fun x => [.string x.name, .int .i64 x.ty, .int .i64 x.cl, .int .i64 x.ttl, .string x.data]

theorem rcI_succ (x : RI) (l : List RI) (k : Nat) : (rcI (x :: l))[k + 5]? = (rcI l)[k]? := by simp [rcI]
theorem qcI_succ (x : QI) (l : List QI) (k : Nat) : (qcI (x :: l))[k + 3]? = (qcI l)[k]? := by simp [qcI]

theorem rcI_at (l : List RI) : ∀ (i : Nat) (h : i < l.length), (rcI l)[i * 5]? = some (.string l[i].name) ∧ (rcI l)[i * 5 + 1]? = some (.int .i64 l[i].ty) ∧ (rcI l)[i * 5 + 2]? = some (.int .i64 l[i].cl) ∧ (rcI l)[i * 5 + 3]? = some (.int .i64 l[i].ttl) ∧ (rcI l)[i * 5 + 4]? = some (.string l[i].data) := by
  induction l with
  | nil => intro i h; simp at h
  | cons x l ih =>
    intro i h
    cases i with
    | zero => exact ⟨rfl, rfl, rfl, rfl, rfl⟩
    | succ i =>
      have e0 : (i + 1) * 5 = i * 5 + 5 := by omega
      have e1 : (i + 1) * 5 + 1 = i * 5 + 1 + 5 := by omega
      have e2 : (i + 1) * 5 + 2 = i * 5 + 2 + 5 := by omega
      have e3 : (i + 1) * 5 + 3 = i * 5 + 3 + 5 := by omega
      have e4 : (i + 1) * 5 + 4 = i * 5 + 4 + 5 := by omega
      rw [e1, e2, e3, e4, e0, rcI_succ, rcI_succ, rcI_succ, rcI_succ, rcI_succ]
      exact ih i (by simpa using h)

theorem qcI_at (l : List QI) : ∀ (i : Nat) (h : i < l.length), (qcI l)[i * 3]? = some (.string l[i].name) ∧ (qcI l)[i * 3 + 1]? = some (.int .i64 l[i].ty) ∧ (qcI l)[i * 3 + 2]? = some (.int .i64 l[i].cl) := by
  induction l with
  | nil => intro i h; simp at h
  | cons x l ih =>
    intro i h
    cases i with
    | zero => exact ⟨rfl, rfl, rfl⟩
    | succ i =>
      have e0 : (i + 1) * 3 = i * 3 + 3 := by omega
      have e1 : (i + 1) * 3 + 1 = i * 3 + 1 + 3 := by omega
      have e2 : (i + 1) * 3 + 2 = i * 3 + 2 + 3 := by omega
      rw [e1, e2, e0, qcI_succ, qcI_succ, qcI_succ]
      exact ih i (by simpa using h)

/-- Cells that lie below the block N, from an address on. -/
def RowAt (w : World) (N : Nat) (a : Option Addr) (xs : List Value) : Prop :=
  xs ≠ [] → ∃ b o, a = some ⟨b, o, none⟩ ∧ b < N ∧ ∀ j u, xs[j]? = some u → w.cell? ⟨b, o + j, none⟩ = some u

theorem RowAt.below {w w' : World} {N : Nat} {a : Option Addr} {xs : List Value} (h : RowAt w N a xs) (hb : Below N w w') : RowAt w' N a xs := by
  intro hx
  obtain ⟨b, o, h1, h2, h3⟩ := h hx
  exact ⟨b, o, h1, h2, fun j u hu => (hb.cell (p := ⟨b, o + j, none⟩) h2).trans (h3 j u hu)⟩

theorem RowAt.mono {w : World} {N M : Nat} {a : Option Addr} {xs : List Value} (h : RowAt w N a xs) (hb : N ≤ M) : RowAt w M a xs := by
  intro hx
  obtain ⟨b, o, h1, h2, h3⟩ := h hx
  exact ⟨b, o, h1, by omega, h3⟩

theorem qcI_ne {l : List QI} {i : Nat} (h : i < l.length) : qcI l ≠ [] := fun e => by
  have := (qcI_at l i h).1
  rw [e] at this
  simp at this
theorem rcI_ne {l : List RI} {i : Nat} (h : i < l.length) : rcI l ≠ [] := fun e => by
  have := (rcI_at l i h).1
  rw [e] at this
  simp at this

/-- A member of a row of questions. -/
theorem row_q {w : World} {N : Nat} {a : Option Addr} {l : List QI} (h : RowAt w N a (qcI l)) (i : Nat) (hi : i < l.length) : ∃ b o, a = some ⟨b, o, none⟩ ∧ b < N ∧
    w.cell? ⟨b, o + i * 3, none⟩ = some (.string l[i].name) ∧ w.cell? ⟨b, o + i * 3 + 1, none⟩ = some (.int .i64 l[i].ty) ∧ w.cell? ⟨b, o + i * 3 + 2, none⟩ = some (.int .i64 l[i].cl) := by
  obtain ⟨b, o, h1, h2, h3⟩ := h (qcI_ne hi)
  obtain ⟨q0, q1, q2⟩ := qcI_at l i hi
  exact ⟨b, o, h1, h2, h3 _ _ q0, h3 _ _ q1, h3 _ _ q2⟩

theorem row_r {w : World} {N : Nat} {a : Option Addr} {l : List RI} (h : RowAt w N a (rcI l)) (i : Nat) (hi : i < l.length) : ∃ b o, a = some ⟨b, o, none⟩ ∧ b < N ∧
    w.cell? ⟨b, o + i * 5, none⟩ = some (.string l[i].name) ∧ w.cell? ⟨b, o + i * 5 + 1, none⟩ = some (.int .i64 l[i].ty) ∧ w.cell? ⟨b, o + i * 5 + 2, none⟩ = some (.int .i64 l[i].cl) ∧
    w.cell? ⟨b, o + i * 5 + 3, none⟩ = some (.int .i64 l[i].ttl) ∧ w.cell? ⟨b, o + i * 5 + 4, none⟩ = some (.string l[i].data) := by
  obtain ⟨b, o, h1, h2, h3⟩ := h (rcI_ne hi)
  obtain ⟨q0, q1, q2, q3, q4⟩ := rcI_at l i hi
  exact ⟨b, o, h1, h2, h3 _ _ q0, h3 _ _ q1, h3 _ _ q2, h3 _ _ q3, h3 _ _ q4⟩

def QSized (l : List QI) : Prop := ∀ i (h : i < l.length), l[i].name.size ≤ 281474976710656
def RSized (l : List RI) : Prop := ∀ i (h : i < l.length), l[i].name.size ≤ 281474976710656 ∧ l[i].data.size ≤ 281474976710656

set_option maxRecDepth 100000 in
set_option maxHeartbeats 1000000 in
theorem areQuestions_any (l : List QI) (a : Option Addr) (c N : Nat) (w : World) (hrow : RowAt w N a (qcI l)) (hN : N ≤ w.heap.size) (hz : QSized l) :
    Calls Try.prog 119 #[.slice a l.length c] w fun e w' => BoolIs (quesOk l) e ∧ Below w.heap.size w w' := by
  have HRow := hide hrow
  have HZ := hide hz
  clear hrow hz
  by_cases cl : 65535 < l.length
  · go_enter Try.func119, Try.ntmps119
    go_wp2_with fail
    go_ret
    exact ⟨⟨_, rfl, ⟨fun h => by simp at h, fun h => absurd h.1 (by omega)⟩⟩, Below.refl _ _⟩
  · go_enter Try.func119, Try.ntmps119
    go_wp2_with fail
    go_loopw [3] (fun i w' => ∃ j : Nat, j ≤ l.length ∧ i = .int .i64 j ∧ Hid (Below w.heap.size w w') ∧ Hid (∀ k (h : k < l.length), k < j → queOk l[k])) (fun i _ => l.length - (intOf i).toNat)
    case atStart => exact ⟨0, Nat.zero_le _, rfl, Below.refl _ _, fun k _ hk => by omega⟩
    case round =>
      obtain ⟨j, hj, rfl, hB, hq⟩ := hrel
      by_cases cj : j < l.length
      · obtain ⟨b, o, rfl, hb, x0, x1, x2⟩ := row_q ((unhide HRow).below ((unhide hB).mono hN)) j cj
        have hsz := unhide HZ j cj
        have HQ : Hid (queOk l[j] ↔ wholeB l[j].name = true ∧ wordOk l[j].ty ∧ wordOk l[j].cl) := Iff.rfl
        have HNo : Hid (¬ queOk l[j] → ¬ quesOk l) := fun h1 h2 => h1 (h2.2 j cj)
        have HYes : Hid (queOk l[j] → ∀ k (h : k < l.length), k < j + 1 → queOk l[k]) := fun h1 k hk hkj => by
          by_cases e : k = j
          · subst e; exact h1
          · exact unhide hq k hk (by omega)
        generalize queOk l[j] = Q at *
        generalize l[j].name = nm at *
        generalize l[j].ty = ty at *
        generalize l[j].cl = kl at *
        go_wp2_with fail
        refine (isName_any nm _ hsz).mono ?_
        rintro e w1 ⟨⟨v, rfl, hv⟩, hb1⟩
        have y1 := (hb1.cell (p := ⟨b, o + j * 3 + 1, none⟩) (by have := (unhide hB).size; show b < _; omega)).trans x1
        have y2 := (hb1.cell (p := ⟨b, o + j * 3 + 2, none⟩) (by have := (unhide hB).size; show b < _; omega)).trans x2
        have HV := hide hv
        clear hv x0 x1 x2
        cases v with
        | false =>
          go_wp2_with fail
          go_ret
          exact ⟨⟨_, rfl, ⟨fun h => by simp at h, fun h => absurd h (unhide HNo fun h2 => absurd ((unhide HV).2 ((unhide HQ).1 h2).1) (by simp))⟩⟩, (unhide hB).trans (hb1.mono (unhide hB).size)⟩
        | true =>
          go_wp2_with fail
          refine (isWord_any ty _).mono ?_
          rintro e w2 ⟨⟨v, rfl, hv⟩, rfl⟩
          have HV2 := hide hv
          clear hv
          cases v with
          | false =>
            go_wp2_with fail
            go_ret
            exact ⟨⟨_, rfl, ⟨fun h => by simp at h, fun h => absurd h (unhide HNo fun h2 => absurd ((unhide HV2).2 ((unhide HQ).1 h2).2.1) (by simp))⟩⟩, (unhide hB).trans (hb1.mono (unhide hB).size)⟩
          | true =>
            go_wp2_with fail
            refine (isWord_any kl _).mono ?_
            rintro e w2 ⟨⟨v, rfl, hv⟩, rfl⟩
            have HV3 := hide hv
            clear hv
            cases v with
            | false =>
              go_wp2_with fail
              go_ret
              exact ⟨⟨_, rfl, ⟨fun h => by simp at h, fun h => absurd h (unhide HNo fun h2 => absurd ((unhide HV3).2 ((unhide HQ).1 h2).2.2) (by simp))⟩⟩, (unhide hB).trans (hb1.mono (unhide hB).size)⟩
            | true =>
              have hyes := unhide HYes ((unhide HQ).2 ⟨(unhide HV).1 (by simp), (unhide HV2).1 (by simp), (unhide HV3).1 (by simp)⟩)
              have HY := hide hyes
              clear hyes
              go_wp2_with fail
              go_roundw
              case rel => exact ⟨j + 1, by omega, by go_num, (unhide hB).trans (hb1.mono (unhide hB).size), HY⟩
              case measure => simp [intOf]; omega
      · go_wp2_with fail
        go_ret
        exact ⟨⟨_, rfl, ⟨fun _ => ⟨by omega, fun k hk => unhide hq k hk (by omega)⟩, fun _ => rfl⟩⟩, unhide hB⟩

end Go.Proofs.Ytdhobdmhnocbgaa
