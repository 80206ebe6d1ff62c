/-
  Walks: the reader's methods questions, records.
-/
import Derived.Test.YtdhobdmhnocbgaaSQuesW
import Derived.Deep.AppendLies
namespace Go.Proofs.Ytdhobdmhnocbgaa
open Go.RowKit Zr

theorem Try.info74 : (Try.prog.info? 74).map (fun i => (i.zero, i.size, i.bytes)) = some (some (.agg #[.string ⟨#[]⟩, .int .i64 0, .int .i64 0]), 3, 32) := by kernel_rfl
theorem Try.info86 : (Try.prog.info? 86).map (fun i => (i.zero, i.size, i.bytes)) = some (some (.agg #[.string ⟨#[]⟩, .int .i64 0, .int .i64 0, .int .i64 0, .string ⟨#[]⟩]), 5, 56) := by kernel_rfl

theorem question_ok (R : Nat) (b : ByteArray) (p : Nat) (q : Qs) (p' : Nat) (w : World) (hb : b.size ≤ 65535) (hR : At w R b (.ok p)) (hq : Hid (questionAt b p = .ok (q, p'))) :
    Calls Try.prog 157 #[.pointer (some ⟨R, 0, none⟩)] w fun e w' => e = .returned (.agg #[.string q.name, .int .i64 q.ty, .int .i64 q.cl]) ∧ At w' R b (.ok p') ∧ w.grownBy w' (some R) := by
  have h := unhide hq
  unfold questionAt at h
  cases hx : nameAt b p with
  | error e => rw [hx] at h; simp at h
  | ok z =>
    obtain ⟨s, t⟩ := z
    rw [hx] at h
    simp only at h
    by_cases c : b.size < p + t + 4
    · rw [if_pos c] at h; simp at h
    · rw [if_neg c] at h
      simp only [Except.ok.injEq, Prod.mk.injEq] at h
      obtain ⟨rfl, rfl⟩ := h
      refine question_walk R b (.ok p) (.ok (p + t)) (.ok (p + t + 2)) (.ok (p + t + 4)) s (num b (p + t) 2) (num b (p + t + 2) 2) w hb hR ?_ ?_ ?_
      · show _ = _; unfold nameSt; simp only; rw [hx]
      · show _ = _; unfold numSt; simp only; rw [if_pos (by omega)]
      · show _ = _; unfold numSt; simp only; rw [if_pos (by omega)]

theorem question_err (R : Nat) (b : ByteArray) (p : Nat) (x : Int) (w : World) (hb : b.size ≤ 65535) (hR : At w R b (.ok p)) (hq : Hid (questionAt b p = .error x)) :
    Calls Try.prog 157 #[.pointer (some ⟨R, 0, none⟩)] w fun e w' => ∃ (s : ByteArray) (ty cl : Nat), e = .returned (.agg #[.string s, .int .i64 ty, .int .i64 cl]) ∧ At w' R b (.error x) ∧ w.grownBy w' (some R) := by
  have h := unhide hq
  unfold questionAt at h
  cases hx : nameAt b p with
  | error e =>
    rw [hx] at h
    simp only [Except.error.injEq] at h
    subst h
    refine (question_walk R b (.ok p) (.error e) (.error e) (.error e) ⟨#[]⟩ 0 0 w hb hR ?_ rfl rfl).mono fun e' w' h => ⟨_, _, _, h⟩
    show _ = _; unfold nameSt; simp only; rw [hx]
  | ok z =>
    obtain ⟨s, t⟩ := z
    rw [hx] at h
    simp only at h
    by_cases c : b.size < p + t + 4
    · rw [if_pos c] at h
      simp only [Except.error.injEq] at h
      subst h
      by_cases c2 : p + t + 2 ≤ b.size
      · refine (question_walk R b (.ok p) (.ok (p + t)) (.ok (p + t + 2)) (.error 2) s (num b (p + t) 2) 0 w hb hR ?_ ?_ ?_).mono fun e' w' h => ⟨_, _, _, h⟩
        · show _ = _; unfold nameSt; simp only; rw [hx]
        · show _ = _; unfold numSt; simp only; rw [if_pos c2]
        · show _ = _; unfold numSt; simp only; rw [if_neg (by omega)]
      · refine (question_walk R b (.ok p) (.ok (p + t)) (.error 2) (.error 2) s 0 0 w hb hR ?_ ?_ rfl).mono fun e' w' h => ⟨_, _, _, h⟩
        · show _ = _; unfold nameSt; simp only; rw [hx]
        · show _ = _; unfold numSt; simp only; rw [if_neg c2]
    · rw [if_neg c] at h; simp at h

/-- What one question leaves of the list so far. -/
def QsNext (b : ByteArray) (p : Nat) (s : ByteArray) (ty cl : Nat) (st : Except Int Nat) : Prop :=
  (∃ q p', questionAt b p = .ok (q, p') ∧ st = .ok p' ∧ s = q.name ∧ ty = q.ty ∧ cl = q.cl) ∨ (∃ x, questionAt b p = .error x ∧ st = .error x)

theorem question_next (R : Nat) (b : ByteArray) (p : Nat) (w : World) (hb : b.size ≤ 65535) (hR : At w R b (.ok p)) :
    Calls Try.prog 157 #[.pointer (some ⟨R, 0, none⟩)] w fun e w' => ∃ (s : ByteArray) (ty cl : Nat) (st : Except Int Nat), e = .returned (.agg #[.string s, .int .i64 ty, .int .i64 cl]) ∧ At w' R b st ∧ w.grownBy w' (some R) ∧ QsNext b p s ty cl st := by
  cases hq : questionAt b p with
  | ok z =>
    obtain ⟨q, p'⟩ := z
    exact (question_ok R b p q p' w hb hR hq).mono fun e w' ⟨h1, h2, h3⟩ => ⟨_, _, _, _, h1, h2, h3, .inl ⟨q, p', hq, rfl, rfl, rfl, rfl⟩⟩
  | error x => exact (question_err R b p x w hb hR hq).mono fun e w' ⟨s, ty, cl, h1, h2, h3⟩ => ⟨_, _, _, _, h1, h2, h3, .inr ⟨x, hq, rfl⟩⟩

def qcells : List Qs → List Value
  | [] => []
  | q :: l => .string q.name :: .int .i64 q.ty :: .int .i64 q.cl :: qcells l
theorem qcells_append (l m : List Qs) : qcells (l ++ m) = qcells l ++ qcells m := by
  induction l with
  | nil => rfl
  | cons q l ih => simp [qcells, ih]
theorem qcells_length (l : List Qs) : (qcells l).length = 3 * l.length := by
  induction l with
  | nil => rfl
  | cons q l ih => simp [qcells, ih]; omega

theorem At.grown {w w' : World} {R : Nat} {b : ByteArray} {st : Except Int Nat} {row : Option Nat} (h : At w R b st) (hg : w.grownBy w' row) (hr : row ≠ some R) : At w' R b st :=
  h.keep (hg.block R h.lt (fun e => hr e.symm))

theorem grown_row {w w1 w2 : World} {R : Nat} {row : Option Nat} (h : w.grownBy w1 (some R)) (hg : w1.grownBy w2 row) (hr : ∀ k, row = some k → w.heap.size ≤ k) : w.grownBy w2 (some R) :=
  ⟨hg.os.trans h.os, hg.tape.trans h.tape, hg.output.trans h.output, Nat.le_trans h.size hg.size, fun k hk hne =>
    (hg.block k (Nat.lt_of_lt_of_le hk h.size) (fun e => by have := hr k e.symm; omega)).trans (h.block k hk hne)⟩

/-- What the list of questions comes to. -/
def qsSt (b : ByteArray) (st : Except Int Nat) (n : Nat) : Except Int (List Qs × Nat) :=
  match st with
  | .ok p => qsTo b p n
  | .error x => .error x

theorem cell_three_new (w : World) (B : Nat) (x y z : Value) (t : TypeId) (h : w.heap.size = B) : ∀ j u, [x, y, z][j]? = some u → (w.alloc (.cells #[x, y, z] t)).cell? ((⟨B, 0, none⟩ : Addr).add j) = some u := by
  subst h
  exact World.news_of_block (heap_alloc_new w _)
theorem cell_five_new (w : World) (B : Nat) (x y z s r : Value) (t : TypeId) (h : w.heap.size = B) : ∀ j u, [x, y, z, s, r][j]? = some u → (w.alloc (.cells #[x, y, z, s, r] t)).cell? ((⟨B, 0, none⟩ : Addr).add j) = some u := by
  subst h
  exact World.news_of_block (heap_alloc_new w _)

theorem owns_ne {w : World} {N : Nat} {e : TypeId} {size : Nat} {v : Value} {n : Nat} {xs : List Value} {R : Nat} (h : w.ownsRow N e size v n xs) (hR : R < N) : v.ownBlock ≠ some R := by
  intro hv
  have := (h.lt R hv).1
  omega
theorem owns_later {w w1 : World} {N : Nat} {e : TypeId} {size : Nat} {v : Value} {n : Nat} {xs : List Value} {R : Nat} (h : w.ownsRow N e size v n xs) (hg : w.grownBy w1 (some R)) (hR : R < N) : w1.ownsRow N e size v n xs :=
  h.kept hg (.inr (owns_ne h hR))

def QsPost (R : Nat) (b : ByteArray) (w' : World) (m : Nat) (cs : List Value) (res : Except Int (List Qs × Nat)) : Prop :=
  match res with
  | .ok (l, p) => At w' R b (.ok p) ∧ m = l.length ∧ cs = qcells l
  | .error x => At w' R b (.error x)

def QsDone (R N : Nat) (b : ByteArray) (w : World) (res : Except Int (List Qs × Nat)) (e : Ending) (w' : World) : Prop :=
  w.grownBy w' (some R) ∧ ∃ v m cs, e = .returned v ∧ w'.ownsRow N 74 3 v m cs ∧ QsPost R b w' m cs res

set_option maxHeartbeats 2000000 in
theorem questions_ok (R : Nat) (b : ByteArray) (k n : Nat) (w : World) (hb : b.size ≤ 65535) (hR : At w R b (.ok k)) (hn : n ≤ 65535) :
    Calls Try.prog 128 #[.pointer (some ⟨R, 0, none⟩), .int .i64 n] w fun e w' => QsDone R w.heap.size b w (qsTo b k n) e w' := by
  have hkb : k ≤ b.size := hR.1
  have hRl := hR.lt
  generalize hN : w.heap.size = N
  rw [hN] at hRl
  obtain ⟨i0, hi, hz0, hz1, hz2⟩ := info_parts Try.info74
  have Hi := hide hi
  have Hz0 := hide hz0
  have Hz1 := hide hz1
  have Hz2 := hide hz2
  clear hi hz0 hz1 hz2
  have HR := hide hR
  clear hR
  go_enter Try.func128, Try.ntmps128
  go_wp2_with fail
  go_loopg [5, 6] (n + 1) (fun g v i w' => ∃ (j : Nat) (cs : List Value) (st : Except Int Nat), i = .int .i64 j ∧ j ≤ n ∧ g = n + 1 - j ∧ Hid (w'.ownsRow N 74 3 v j cs) ∧ Hid (At w' R b st) ∧ Hid (w.grownBy w' (some R)) ∧ ((∃ l p, Hid (st = .ok p) ∧ Hid (qsTo b k j = .ok (l, p)) ∧ Hid (cs = qcells l)) ∨ (∃ x, Hid (st = .error x) ∧ Hid (qsTo b k j = .error x))))
  case atStart => exact ⟨0, [], .ok k, rfl, Nat.zero_le _, by omega, World.ownsRow_nil _ _ _ _, HR, grown_refl _ _, .inl ⟨[], k, rfl, rfl, rfl⟩⟩
  case round =>
    obtain ⟨j, cs, st, rfl, hj, hg, hown, hAt, hgr, hcase⟩ := hrel
    have hAtf := (unhide hAt).fail
    obtain ⟨af, az⟩ := hAtf
    rcases hcase with ⟨l, p, hst, hqs, hcs⟩ | ⟨x, hst, hqs⟩
    · have h1 := unhide hst
      subst h1
      have af' : wr.cell? ⟨R, 2, none⟩ = some (.int .i64 0) := af
      clear af
      by_cases c : j < n
      · go_wp2_with fail
        refine (question_next R b p _ hb (unhide hAt)).mono ?_
        rintro e w1 ⟨s, ty, cl, st', rfl, hAt1, hg1, hnext⟩
        have hown1 := owns_later (unhide hown) hg1 hRl
        have hgr1 := hide (grown_trans (unhide hgr) hg1)
        have hle : N ≤ w1.heap.size := by have := (unhide hgr1).size; omega
        have hA1 := hide hAt1
        have hO1 := hide hown1
        have hNx := hide hnext
        clear hAt1 hg1 hown1 hown hAt hgr af' az hnext
        go_wp2_with (at_builtin; refine wpList_append_lies _ rfl _ _ 22 rfl N 74 i0 (.agg #[.string ⟨#[]⟩, .int .i64 0, .int .i64 0]) 3 32 Try.underlying22 (unhide Hi) (unhide Hz0) (unhide Hz1) (unhide Hz2) rfl (by decide) u5 j cs (by rfl) (((unhide hO1).alloc _).alloc _) ⟨w1.heap.size + 1, 0, none⟩ 1 1 [.string s, .int .i64 ty, .int .i64 cl] (by rfl) rfl (cell_three_new _ _ _ _ _ _ (by simp)) (fun x hx => by simp at hx; rcases hx with rfl | rfl | rfl <;> rfl) (by decide) (by unfold maxLen; omega) (by omega) (by simp; omega) (w1.heap.size + 2) (by simp) ?_; intro g cap w3 hown3 hgrow3 hat3 hlt3)
        go_roundg (n + 1 - (j + 1))
        case measure => omega
        case rel =>
          have hrow : ∀ r, u5.ownBlock = some r → N ≤ r := fun r hr => ((unhide hO1).lt r hr).1
          have hgA := grown_alloc2 w1 (.cells #[.string s, .int .i64 ty, .int .i64 cl] 74) (.cells #[.string s, .int .i64 ty, .int .i64 cl] 74)
          refine ⟨j + 1, cs ++ [.string s, .int .i64 ty, .int .i64 cl], st', by go_num, by omega, rfl, hide hown3, ?_, ?_, ?_⟩
          · exact ((unhide hA1).grown (hgA none) (by simp)).grown hgrow3 (fun e => by have := hrow R e; omega)
          · exact grown_row (grown_row (unhide hgr1) (hgA none) (fun k h => by cases h)) hgrow3 (fun r hr => by rw [hN]; exact hrow r hr)
          · rcases unhide hNx with ⟨q, p', h1, h2, rfl, rfl, rfl⟩ | ⟨x, h1, h2⟩
            · refine .inl ⟨l ++ [q], p', h2, ?_, ?_⟩
              · show _ = _
                rw [qsTo, unhide hqs]; simp only; rw [h1]
              · show _ = _
                rw [unhide hcs, qcells_append]; rfl
            · refine .inr ⟨x, h2, ?_⟩
              show _ = _
              rw [qsTo, unhide hqs]; simp only; rw [h1]
      · have hjn : j = n := by omega
        subst hjn
        have hP : QsPost R b wr j cs (qsTo b k j) := by
          rw [unhide hqs]
          exact ⟨unhide hAt, (qsTo_bounds b k hkb j l p (unhide hqs)).1.symm, unhide hcs⟩
        have HP := hide hP
        clear hP
        go_wp2_with fail
        go_ret
        unfold QsDone
        exact ⟨unhide hgr, _, j, cs, rfl, unhide hown, unhide HP⟩
    · have h1 := unhide hst
      subst h1
      have af' : wr.cell? ⟨R, 2, none⟩ = some (.int .i64 x) := af
      have hx0 : (x == 0) = false := beq_eq_false_iff_ne.2 (unhide hAt).failNe
      clear af
      have hP : QsPost R b wr j cs (qsTo b k n) := by
        rw [qsTo_err b k j x (unhide hqs) n hj]
        exact unhide hAt
      have HP := hide hP
      clear hP
      by_cases c : j < n
      all_goals
        go_wp2_with fail
        go_ret
        unfold QsDone
        exact ⟨unhide hgr, _, j, cs, rfl, unhide hown, unhide HP⟩

set_option maxHeartbeats 400000 in
theorem questions_err (R : Nat) (b : ByteArray) (x : Int) (n : Nat) (w : World) (hR : At w R b (.error x)) :
    Calls Try.prog 128 #[.pointer (some ⟨R, 0, none⟩), .int .i64 n] w fun e w' => e = .returned (.slice none 0 0) ∧ w' = w := by
  obtain ⟨af, az⟩ := hR.fail
  have af' : w.cell? ⟨R, 2, none⟩ = some (.int .i64 x) := af
  have hx0 : (x == 0) = false := beq_eq_false_iff_ne.2 hR.failNe
  clear af hR
  by_cases c : (0 : Int) < n
  all_goals
    go_enter Try.func128, Try.ntmps128
    go_wp2_with fail
    refine wp_loop_rounds 1 ?_; rw [rounds_succ]
    go_wp2_with fail
    go_ret
    exact ⟨rfl, rfl⟩

end Go.Proofs.Ytdhobdmhnocbgaa
