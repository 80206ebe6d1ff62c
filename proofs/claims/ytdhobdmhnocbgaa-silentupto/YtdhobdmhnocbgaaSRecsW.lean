/-
  Walks: the reader's method records.
-/
import Derived.Test.YtdhobdmhnocbgaaSListW
namespace Go.Proofs.Ytdhobdmhnocbgaa
open Go.RowKit Zr

def recSt (b : ByteArray) (st : Except Int Nat) : Except Int Nat × Rc :=
  let a1 := nameSt b st
  let a2 := numSt b a1.1 2
  let a3 := numSt b a2.1 2
  let a4 := numSt b a3.1 4
  let a5 := dataSt b a4.1 a2.2
  (a5.1, ⟨a1.2, a2.2, a3.2, a4.2, a5.2⟩)

theorem record_st (R : Nat) (b : ByteArray) (st : Except Int Nat) (w : World) (hb : b.size ≤ 65535) (hR : At w R b st) :
    Calls Try.prog 158 #[.pointer (some ⟨R, 0, none⟩)] w fun e w' => e = .returned (.agg #[.string (recSt b st).2.name, .int .i64 (recSt b st).2.ty, .int .i64 (recSt b st).2.cl, .int .i64 (recSt b st).2.ttl, .string (recSt b st).2.data]) ∧ At w' R b (recSt b st).1 ∧ w.grownBy w' (some R) :=
  record_walk R b st _ _ _ _ _ _ _ _ _ _ w hb hR rfl rfl rfl rfl rfl

theorem numSt_ok (b : ByteArray) (p n : Nat) (h : p + n ≤ b.size) : numSt b (.ok p) n = (.ok (p + n), num b p n) := by unfold numSt; simp only; rw [if_pos h]
theorem numSt_no (b : ByteArray) (p n : Nat) (h : ¬ p + n ≤ b.size) : numSt b (.ok p) n = (.error 2, 0) := by unfold numSt; simp only; rw [if_neg h]
theorem numSt_err (b : ByteArray) (x : Int) (n : Nat) : numSt b (.error x) n = (.error x, 0) := rfl
theorem dataSt_err (b : ByteArray) (x : Int) (n : Nat) : dataSt b (.error x) n = (.error x, ⟨#[]⟩) := rfl

/-- The reader's way and the plain one. -/
theorem recSt_spec (b : ByteArray) (p : Nat) : match recordAt b p with
    | .ok (x, p') => recSt b (.ok p) = (.ok p', x)
    | .error e => (recSt b (.ok p)).1 = .error e := by
  unfold recordAt recSt
  cases hx : nameAt b p with
  | error e =>
    have e1 : nameSt b (.ok p) = (.error e, ⟨#[]⟩) := by unfold nameSt; simp only; rw [hx]
    simp only [e1, numSt_err, dataSt_err]
  | ok z =>
    obtain ⟨s, t⟩ := z
    have e1 : nameSt b (.ok p) = (.ok (p + t), s) := by unfold nameSt; simp only; rw [hx]
    simp only [e1]
    by_cases c2 : p + t + 2 ≤ b.size
    · rw [numSt_ok b (p + t) 2 c2]
      by_cases c3 : p + t + 2 + 2 ≤ b.size
      · rw [numSt_ok b (p + t + 2) 2 c3]
        by_cases c4 : p + t + 2 + 2 + 4 ≤ b.size
        · rw [numSt_ok b (p + t + 2 + 2) 4 c4]
          by_cases c5 : b.size < p + t + 10
          · rw [if_pos c5]
            have e5 : dataSt b (.ok (p + t + 2 + 2 + 4)) (num b (p + t) 2) = (.error 2, ⟨#[]⟩) := by unfold dataSt; simp only; rw [if_pos (by omega)]
            simp only [e5]
          · rw [if_neg c5]
            by_cases c6 : b.size < p + t + 10 + num b (p + t + 8) 2
            · rw [if_pos c6]
              have e5 : dataSt b (.ok (p + t + 2 + 2 + 4)) (num b (p + t) 2) = (.error 2, ⟨#[]⟩) := by unfold dataSt; simp only; rw [if_pos (.inr c6)]
              simp only [e5]
            · rw [if_neg c6]
              have hn : ¬ (b.size < p + t + 2 + 2 + 4 + 2 ∨ b.size < p + t + 2 + 2 + 4 + 2 + num b (p + t + 2 + 2 + 4) 2) := by
                intro h
                rcases h with h | h
                · omega
                · exact c6 h
              cases hd : dataP b (p + t + 10) (num b (p + t + 8) 2) (num b (p + t) 2) with
              | none =>
                have hd' : dataP b (p + t + 2 + 2 + 4 + 2) (num b (p + t + 2 + 2 + 4) 2) (num b (p + t) 2) = none := hd
                have e5 : dataSt b (.ok (p + t + 2 + 2 + 4)) (num b (p + t) 2) = (.error 4, ⟨#[]⟩) := by unfold dataSt; simp only; rw [if_neg hn, hd']
                simp only [e5]
              | some d =>
                have hd' : dataP b (p + t + 2 + 2 + 4 + 2) (num b (p + t + 2 + 2 + 4) 2) (num b (p + t) 2) = some d := hd
                have e5 : dataSt b (.ok (p + t + 2 + 2 + 4)) (num b (p + t) 2) = (.ok (p + t + 10 + num b (p + t + 8) 2), d) := by unfold dataSt; simp only; rw [if_neg hn, hd']
                simp only [e5]
        · rw [numSt_no b (p + t + 2 + 2) 4 c4]
          rw [if_pos (by omega)]
          simp only [dataSt_err]
      · rw [numSt_no b (p + t + 2) 2 c3, if_pos (by omega)]
        simp only [numSt_err, dataSt_err]
    · rw [numSt_no b (p + t) 2 c2, if_pos (by omega)]
      simp only [numSt_err, dataSt_err]

def rcells : List Rc → List Value
  | [] => []
  | x :: l => .string x.name :: .int .i64 x.ty :: .int .i64 x.cl :: .int .i64 x.ttl :: .string x.data :: rcells l
theorem rcells_append (l m : List Rc) : rcells (l ++ m) = rcells l ++ rcells m := by
  induction l with
  | nil => rfl
  | cons q l ih => simp [rcells, ih]
theorem rcells_length (l : List Rc) : (rcells l).length = 5 * l.length := by
  induction l with
  | nil => rfl
  | cons q l ih => simp [rcells, ih]; omega

/-- What holds of the loop's state after j records. -/
def RcInv (b : ByteArray) (part k j : Nat) (cs : List Value) (st : Except Int Nat) (mo : Bool) : Prop :=
  (∃ l p, st = .ok p ∧ rcTo b part k j = .ok (l, p) ∧ cs = rcells l ∧ mo = (part == 2 && !(l.any (fun y => y.ty == 41)))) ∨ (∃ x, st = .error x ∧ rcTo b part k j = .error x)

theorem rcInv_err (b : ByteArray) (part k j : Nat) (cs : List Value) (mo : Bool) (l : List Rc) (p : Nat) (h : rcTo b part k j = .ok (l, p)) (x : Int) (hx : recordAt b p = .error x) : RcInv b part k (j + 1) cs (.error x) mo :=
  .inr ⟨x, rfl, by rw [rcTo, h]; simp only; rw [hx]⟩
theorem rcInv_bad (b : ByteArray) (part k j : Nat) (cs : List Value) (mo : Bool) (l : List Rc) (p : Nat) (h : rcTo b part k j = .ok (l, p)) (x : Rc) (p' : Nat) (hx : recordAt b p = .ok (x, p')) (hm : misB l x part = true) : RcInv b part k (j + 1) cs (.error 5) mo :=
  .inr ⟨5, rfl, by rw [rcTo, h]; simp only; rw [hx]; simp only; rw [if_pos hm]⟩
theorem rcInv_good (b : ByteArray) (part k j : Nat) (mo : Bool) (l : List Rc) (p : Nat) (h : rcTo b part k j = .ok (l, p)) (x : Rc) (p' : Nat) (hx : recordAt b p = .ok (x, p')) (hm : misB l x part = false)
    (hmo : mo = (part == 2 && !((l ++ [x]).any (fun y => y.ty == 41)))) : RcInv b part k (j + 1) (rcells l ++ rcells [x]) (.ok p') mo :=
  .inl ⟨l ++ [x], p', rfl, by rw [rcTo, h]; simp only; rw [hx]; simp only; rw [if_neg (by rw [hm]; decide)], (rcells_append l [x]).symm, hmo⟩

def RcPost (R : Nat) (b : ByteArray) (w' : World) (m : Nat) (cs : List Value) (res : Except Int (List Rc × Nat)) : Prop :=
  match res with
  | .ok (l, p) => At w' R b (.ok p) ∧ m = l.length ∧ cs = rcells l
  | .error x => At w' R b (.error x)

def RcDone (R N : Nat) (b : ByteArray) (w : World) (res : Except Int (List Rc × Nat)) (e : Ending) (w' : World) : Prop :=
  w.grownBy w' (some R) ∧ ∃ v m cs, e = .returned v ∧ w'.ownsRow N 86 5 v m cs ∧ RcPost R b w' m cs res

/-- The five ways of a round. -/
theorem rc_five (b : ByteArray) (part k j : Nat) (l : List Rc) (p : Nat) (mo : Bool) (st' : Except Int Nat) (x : Rc) (hqs : rcTo b part k j = .ok (l, p)) (hmo : mo = (part == 2 && !(l.any (fun y => y.ty == 41))))
    (hst : ∀ e, st' = .error e → e ≠ 0)
    (hsp : match recordAt b p with
      | .ok (y, p') => (st', x) = (.ok p', y)
      | .error e => st' = .error e) :
    (∃ e0, st' = .error e0 ∧ (e0 == 0) = false ∧ RcInv b part k (j + 1) (rcells l ++ rcells [x]) (.error e0) mo) ∨
    (∃ p', st' = .ok p' ∧ ((x.ty : Int) == 41) = true ∧ mo = false ∧ RcInv b part k (j + 1) (rcells l ++ rcells [x]) (.error 5) false) ∨
    (∃ p', st' = .ok p' ∧ ((x.ty : Int) == 41) = true ∧ mo = true ∧ (x.name.toList == [0]) = true ∧ RcInv b part k (j + 1) (rcells l ++ rcells [x]) (.ok p') false) ∨
    (∃ p', st' = .ok p' ∧ ((x.ty : Int) == 41) = true ∧ mo = true ∧ (x.name.toList == [0]) = false ∧ RcInv b part k (j + 1) (rcells l ++ rcells [x]) (.error 5) false) ∨
    (∃ p', st' = .ok p' ∧ ((x.ty : Int) == 41) = false ∧ RcInv b part k (j + 1) (rcells l ++ rcells [x]) (.ok p') mo) := by
  cases hrc : recordAt b p with
  | error e0 =>
    rw [hrc] at hsp
    simp only at hsp
    exact .inl ⟨e0, hsp, beq_eq_false_iff_ne.2 (hst e0 hsp), rcInv_err b part k j _ mo l p hqs e0 hrc⟩
  | ok z =>
    obtain ⟨y, p'⟩ := z
    rw [hrc] at hsp
    simp only [Prod.mk.injEq] at hsp
    obtain ⟨rfl, rfl⟩ := hsp
    refine .inr ?_
    by_cases d41 : x.ty = 41
    · have t41 : ((x.ty : Int) == 41) = true := by rw [beq_iff_eq]; omega
      cases hc : mo with
      | false =>
        refine .inl ⟨p', rfl, t41, rfl, rcInv_bad b part k j _ false l p hqs x p' hrc ?_⟩
        rw [hc] at hmo
        unfold misB
        rw [d41]
        cases h2 : (part == 2) with
        | false => simp [bne, h2]
        | true =>
          cases h4 : (l.any fun y => y.ty == 41) with
          | true => rfl
          | false => rw [h2, h4] at hmo; exact absurd hmo (by decide)
      | true =>
        rw [hc] at hmo
        have hp2 : (part == 2) = true := by
          cases h2 : (part == 2) with
          | true => rfl
          | false => rw [h2, Bool.false_and] at hmo; exact absurd hmo (by decide)
        have hany : (l.any fun y => y.ty == 41) = false := by
          cases h4 : (l.any fun y => y.ty == 41) with
          | false => rfl
          | true => rw [h4, hp2] at hmo; exact absurd hmo (by decide)
        have hbe := bytes_eqb x.name ⟨#[0]⟩
        have h0 : (⟨#[0]⟩ : ByteArray).toList = [0] := by rw [ByteArray.toList_eq]
        rw [h0] at hbe
        by_cases hnm : x.name = ⟨#[0]⟩
        · refine .inr (.inl ⟨p', rfl, t41, rfl, by rw [hbe]; simp [hnm], rcInv_good b part k j false l p hqs x p' hrc ?_ (by simp [d41])⟩)
          unfold misB
          rw [d41, hany, hnm]
          simp [bne, hp2]
        · refine .inr (.inr (.inl ⟨p', rfl, t41, rfl, by rw [hbe]; simp [hnm], rcInv_bad b part k j _ false l p hqs x p' hrc ?_⟩))
          unfold misB
          rw [d41]
          simp [hnm]
    · have hb41 : (x.ty == 41) = false := beq_eq_false_iff_ne.2 d41
      refine .inr (.inr (.inr ⟨p', rfl, beq_eq_false_iff_ne.2 (by omega), rcInv_good b part k j mo l p hqs x p' hrc (by unfold misB; rw [hb41]; rfl) ?_⟩))
      rw [hmo, List.any_append]
      simp [hb41]

/-- What the round's tail leans on. -/
structure Tail (R N H : Nat) (b : ByteArray) (w X : World) (v : Value) (j : Nat) (cs : List Value) (st : Except Int Nat) : Prop where
  at_ : At X R b st
  own : X.ownsRow N 86 5 v j cs
  grown : w.grownBy X (some R)
  size : X.heap.size = H

theorem tail_same {R N : Nat} {b : ByteArray} {w w1 : World} {v : Value} {j : Nat} {cs : List Value} {st : Except Int Nat} (hA : At w1 R b st) (hO : w1.ownsRow N 86 5 v j cs) (hG : w.grownBy w1 (some R)) :
    Tail R N w1.heap.size b w w1 v j cs st := ⟨hA, hO, hG, rfl⟩

theorem tail_fail {R N : Nat} {b : ByteArray} {w w1 : World} {v : Value} {j : Nat} {cs : List Value} {p : Nat} {part k j' : Nat} {cs' : List Value} {mo : Bool} (_ : RcInv b part k j' cs' (.error 5) mo) (hA : At w1 R b (.ok p)) (hO : w1.ownsRow N 86 5 v j cs) (hG : w.grownBy w1 (some R)) (hR : R < N) :
    Tail R N w1.heap.size b w (w1.setCell ⟨R, 2, none⟩ (.int .i64 5)) v j cs (.error 5) :=
  ⟨⟨by decide, p, rdr_set2 hA.2 5⟩, owns_later hO (grown_set _ _ _ _) hR, grown_trans hG (grown_set _ _ _ _), size_set _ _ _⟩

set_option maxHeartbeats 2000000 in
theorem records_ok (R : Nat) (b : ByteArray) (part k n : Nat) (ex : Bool) (w : World) (hb : b.size ≤ 65535) (hR : At w R b (.ok k)) (hn : n ≤ 65535) (hex : Hid (ex = (part == 2))) :
    Calls Try.prog 129 #[.pointer (some ⟨R, 0, none⟩), .int .i64 n, .bool ex] w fun e w' => RcDone R w.heap.size b w (rcTo b part k n) e w' := by
  have hkb : k ≤ b.size := hR.1
  have hRl := hR.lt
  generalize hN : w.heap.size = N
  rw [hN] at hRl
  obtain ⟨i0, hi, hz0, hz1, hz2⟩ := info_parts Try.info86
  have Hi := hide hi
  have Hz0 := hide hz0
  have Hz1 := hide hz1
  have Hz2 := hide hz2
  clear hi hz0 hz1 hz2
  have HR := hide hR
  clear hR
  go_enter Try.func129, Try.ntmps129
  go_wp2_with fail
  go_loopg [7, 8, 9] (n + 1) (fun g v mv i w' => ∃ (j : Nat) (cs : List Value) (st : Except Int Nat) (mo : Bool), i = .int .i64 j ∧ mv = .bool mo ∧ j ≤ n ∧ g = n + 1 - j ∧ Hid (w'.ownsRow N 86 5 v j cs) ∧ Hid (At w' R b st) ∧ Hid (w.grownBy w' (some R)) ∧ Hid (RcInv b part k j cs st mo))
  case atStart => exact ⟨0, [], .ok k, ex, rfl, rfl, Nat.zero_le _, by omega, World.ownsRow_nil _ _ _ _, HR, grown_refl _ _, .inl ⟨[], k, rfl, rfl, rfl, by rw [unhide hex]; simp⟩⟩
  case round =>
    obtain ⟨j, cs, st, mo, rfl, rfl, hj, hg, hown, hAt, hgr, hinv⟩ := hrel
    obtain ⟨af, az⟩ := (unhide hAt).fail
    rcases unhide hinv with ⟨l, p, rfl, hqs, rfl, hmo⟩ | ⟨x, rfl, hqs⟩
    · have af' : wr.cell? ⟨R, 2, none⟩ = some (.int .i64 0) := af
      clear af hinv
      have Hqs := hide hqs
      have Hmo := hide hmo
      clear hqs hmo
      by_cases c : j < n
      · go_wp2_with fail
        have hsp := recSt_spec b p
        have hcall := record_st R b (.ok p) wr hb (unhide hAt)
        generalize hrs : recSt b (.ok p) = rs at hsp hcall
        obtain ⟨st', x⟩ := rs
        simp only at hsp hcall
        refine hcall.mono ?_
        clear hcall hrs
        rintro e w1 ⟨rfl, hAt1, hg1⟩
        have hown1 := owns_later (unhide hown) hg1 hRl
        have hgr1 := hide (grown_trans (unhide hgr) hg1)
        have hle : N ≤ w1.heap.size := by have := (unhide hgr1).size; omega
        have hA1 := hide hAt1
        have hO1 := hide hown1
        obtain ⟨g2, g3⟩ := hAt1.fail
        have hR1 := hAt1.lt
        clear hAt1 hg1 hown1 hown hAt hgr af' az
        have hrow : ∀ r, u7.ownBlock = some r → N ≤ r := fun r hr => ((unhide hO1).lt r hr).1
        have Hrow := hide hrow
        clear hrow
        have five := rc_five b part k j l p mo st' x (unhide Hqs) (unhide Hmo) (fun e he => by have := unhide hA1; rw [he] at this; exact this.failNe) hsp
        clear hsp Hqs Hmo
        rcases five with ⟨e0, rfl, f1, hv⟩ | ⟨p', rfl, f1, rfl, hv⟩ | ⟨p', rfl, f1, rfl, f2, hv⟩ | ⟨p', rfl, f1, rfl, f2, hv⟩ | ⟨p', rfl, f1, hv⟩
        all_goals
          first
            | have ht := hide (tail_fail hv (unhide hA1) (unhide hO1) (unhide hgr1) hRl)
            | have ht := hide (tail_same (unhide hA1) (unhide hO1) (unhide hgr1))
          have hinv2 := hide hv
          clear hv
          simp only [failOf] at g2
          go_upto_region 11 with fail
          go_wp2_with (at_builtin; refine wpList_append_lies _ rfl _ _ 23 rfl N 86 i0 (.agg #[.string ⟨#[]⟩, .int .i64 0, .int .i64 0, .int .i64 0, .string ⟨#[]⟩]) 5 56 Try.underlying23 (unhide Hi) (unhide Hz0) (unhide Hz1) (unhide Hz2) rfl (by decide) u7 j (rcells l) (by rfl) (((unhide ht).own.alloc _).alloc _) ⟨w1.heap.size + 1, 0, none⟩ 1 1 [.string x.name, .int .i64 x.ty, .int .i64 x.cl, .int .i64 x.ttl, .string x.data] (by rfl) rfl (cell_five_new _ _ _ _ _ _ _ _ (by simp [(unhide ht).size])) (fun x hx => by simp at hx; rcases hx with rfl | rfl | rfl | rfl | rfl <;> rfl) (by decide) (by unfold maxLen; omega) (by omega) (by simp [(unhide ht).size]; omega) (w1.heap.size + 2) (by simp [(unhide ht).size]) ?_; intro g cap w3 hown3 hgrow3 hat3 hlt3)
          go_roundg (n + 1 - (j + 1))
          case measure => omega
          case rel =>
            refine ⟨j + 1, rcells l ++ rcells [x], _, _, by go_num, rfl, by omega, rfl, hide hown3, ?_, ?_, hinv2⟩
            · exact ((unhide ht).at_.grown (grown_alloc2 _ _ _ none) (by simp)).grown hgrow3 (fun e => by have := unhide Hrow R e; omega)
            · exact grown_row (grown_row (unhide ht).grown (grown_alloc2 _ _ _ none) (fun k h => by cases h)) hgrow3 (fun r hr => by rw [hN]; exact unhide Hrow r hr)
      · have hjn : j = n := by omega
        subst hjn
        have hP : RcPost R b wr j (rcells l) (rcTo b part k j) := by
          rw [unhide Hqs]
          exact ⟨unhide hAt, (rcTo_bounds b part k hkb j l p (unhide Hqs)).1.symm, rfl⟩
        have HP := hide hP
        clear hP
        go_wp2_with fail
        go_ret
        unfold RcDone
        exact ⟨unhide hgr, _, j, _, rfl, unhide hown, unhide HP⟩
    · have af' : wr.cell? ⟨R, 2, none⟩ = some (.int .i64 x) := af
      have hx0 : (x == 0) = false := beq_eq_false_iff_ne.2 (unhide hAt).failNe
      clear af hinv
      have hP : RcPost R b wr j cs (rcTo b part k n) := by
        rw [rcTo_err b part k j x hqs n hj]
        exact unhide hAt
      have HP := hide hP
      clear hP hqs
      by_cases c : j < n
      all_goals
        go_wp2_with fail
        go_ret
        unfold RcDone
        exact ⟨unhide hgr, _, j, cs, rfl, unhide hown, unhide HP⟩

set_option maxHeartbeats 400000 in
theorem records_err (R : Nat) (b : ByteArray) (x : Int) (n : Nat) (ex : Bool) (w : World) (hR : At w R b (.error x)) :
    Calls Try.prog 129 #[.pointer (some ⟨R, 0, none⟩), .int .i64 n, .bool ex] w fun e w' => e = .returned (.slice none 0 0) ∧ w' = w := by
  obtain ⟨af, az⟩ := hR.fail
  have af' : w.cell? ⟨R, 2, none⟩ = some (.int .i64 x) := af
  have hx0 : (x == 0) = false := beq_eq_false_iff_ne.2 hR.failNe
  clear af hR
  by_cases c : (0 : Int) < n
  all_goals
    go_enter Try.func129, Try.ntmps129
    go_wp2_with fail
    refine wp_loop_rounds 1 ?_; rw [rounds_succ]
    go_wp2_with fail
    go_ret
    exact ⟨rfl, rfl⟩

end Go.Proofs.Ytdhobdmhnocbgaa
