/-
  Walks over the law: lists with spare room behind them.
-/
/-
  Walks over the law: lists with spare room behind them (roomyRecords, sameRecords, sameQuestions, SameMessage).
-/
/-
  Walks over the law: messages that are the same, lists read where they lie.
-/
import Derived.Test.YtdhobdmhnocbgaaSWellY
import Derived.Test.YtdhobdmhnocbgaaSListW
import Derived.Test.YtdhobdmhnocbgaaSLawC
import Derived.Laws.CopyOwn
namespace Go.Proofs.Ytdhobdmhnocbgaa
open Go.RowKit Zr

section
variable {P : Program}

theorem run_copy_wide (w : World) (dT sT ty elem : TypeId) (i : TypeInfo) (g dLen dCap : Nat) (sp : Option Addr) (sLen sCap : Nat) (cur : Array Value) (t : TypeId) (cs : List Value)
    (hu : P.underlying dT = some (.slice elem)) (hi : P.info? elem = some i) (hg : w.heap[g]? = some (.cells cur t (0, 0))) (hl : cs.length = sLen * i.size) (hle : sLen ≤ dLen)
    (hsrc : cs ≠ [] → ∃ a, sp = some a ∧ ∀ j v, cs[j]? = some v → w.cell? (a.add j) = some v) (hfit : cs.length ≤ cur.size) (h1 : ∀ v ∈ cs, v.oneCell' = true) :
    (Builtin.copy_ #[dT, sT] ty #[.slice (some ⟨g, 0, none⟩) dLen dCap, .slice sp sLen sCap]).run P w = .ok (goInt sLen) (w.setRow g (cs ++ cur.toList.drop cs.length).toArray) := by
  have hst := run_storeCells_at P g 0 t cs 0 cur w hg (by simpa using hfit) h1
  simp only [Nat.add_zero, Nat.zero_add, List.take_zero, List.nil_append] at hst
  have hmin : Nat.min sLen dLen = sLen := Nat.min_eq_left hle
  have hfc : (Builtin.firstCells i.size sLen (.slice sp sLen sCap)).run P w = .ok cs.toArray w := by
    by_cases c : cs = []
    · subst c
      have h0 : sLen * i.size = 0 := by simpa using hl.symm
      cases sp with
      | none => exact run_firstCells_none w i.size sLen sLen sCap
      | some a => exact run_firstCells_some w i.size sLen a sLen sCap [] hl (fun j v h => by simp at h)
    · obtain ⟨a, rfl, ha⟩ := hsrc c
      exact run_firstCells_some w i.size sLen a sLen sCap cs hl ha
  simp [Builtin.copy_, run_underlying hu, Builtin.lenOf, sizeOf, typeInfo, hi, hmin, hfc, hst]

theorem wpList_copy_wide {w : World} {ops : Array Oper} {rest : List Oper} {o : Oper} {a : Act} {Q : Exit → Act → World → Prop} (hgd : o.guard = none) (d s : Operand) (dT sT : TypeId)
    (ho : o.op = .call { callee := .builtin .copy, args := #[d, s], argTypes := #[dT, sT] }) (elem : TypeId) (i : TypeInfo) (hu : P.underlying dT = some (.slice elem)) (hi : P.info? elem = some i)
    (g dLen dCap : Nat) (sp : Option Addr) (sLen sCap : Nat) (hd : a.eval d = .slice (some ⟨g, 0, none⟩) dLen dCap) (hs : a.eval s = .slice sp sLen sCap)
    (cur : Array Value) (t : TypeId) (hg : w.heap[g]? = some (.cells cur t (0, 0))) (cs : List Value) (hl : cs.length = sLen * i.size) (hle : sLen ≤ dLen)
    (hsrc : cs ≠ [] → ∃ a, sp = some a ∧ ∀ j v, cs[j]? = some v → w.cell? (a.add j) = some v) (hfit : cs.length ≤ cur.size) (h1 : ∀ v ∈ cs, v.oneCell' = true)
    (h : ∀ w', w'.heap[g]? = some (.cells (cs ++ cur.toList.drop cs.length).toArray t (0, 0)) → w.grownBy w' (some g) → wpList P ops Q rest (a.put o.dst (goInt sLen)) w') : wpList P ops Q (o :: rest) a w := by
  refine wpList_plain hgd fun K hK => ?_
  have hrun := run_copy_wide (P := P) w dT sT o.type elem i g dLen dCap sp sLen sCap cur t cs hu hi hg hl hle hsrc hfit h1
  unfold Oper.wp
  simp [execOp, ho, resolve, invoke, builtin, hd, hs, hrun, Result.andThen]
  refine hK _ _ (h _ (setRow_heap w g _ _ t _ hg) ⟨rfl, rfl, rfl, by simp, fun k _ hk => setRow_other w g k _ (fun e => hk (by rw [e]))⟩)

end

theorem rcI_len (l : List RI) : (rcI l).length = l.length * 5 := by
  induction l with
  | nil => rfl
  | cons x l ih => simp only [rcI, List.flatMap_cons, List.length_append, List.length_cons, List.length_nil] at ih ⊢; omega
theorem qcI_len (l : List QI) : (qcI l).length = l.length * 3 := by
  induction l with
  | nil => rfl
  | cons x l ih => simp only [qcI, List.flatMap_cons, List.length_append, List.length_cons, List.length_nil] at ih ⊢; omega
theorem rcI_one (l : List RI) : ∀ v ∈ rcI l, v.oneCell' = true := by
  intro v hv
  unfold rcI at hv
  obtain ⟨x, _, hx⟩ := List.mem_flatMap.1 hv
  simp at hx
  rcases hx with rfl | rfl | rfl | rfl | rfl <;> rfl
theorem qcI_one (l : List QI) : ∀ v ∈ qcI l, v.oneCell' = true := by
  intro v hv
  unfold qcI at hv
  obtain ⟨x, _, hx⟩ := List.mem_flatMap.1 hv
  simp at hx
  rcases hx with rfl | rfl | rfl <;> rfl

/-- The last record of a list with room: the caller's mark. -/
def spareR : List Value := [.string ⟨#[]⟩, .int .i64 77, .int .i64 0, .int .i64 0, .string ⟨#[]⟩]
def spareQ : List Value := [.string ⟨#[]⟩, .int .i64 77, .int .i64 0]

/-- A list of its own, with spare room behind it. -/
def RoomR (w : World) (N : Nat) (v : Value) (l : List RI) : Prop := ∃ g, v = .slice (some ⟨g, 0, none⟩) l.length (l.length + 1) ∧ N ≤ g ∧ w.heap[g]? = some (.cells (rcI l ++ spareR).toArray 86 (0, 0))
def RoomQ (w : World) (N : Nat) (v : Value) (l : List QI) : Prop := ∃ g, v = .slice (some ⟨g, 0, none⟩) l.length (l.length + 1) ∧ N ≤ g ∧ w.heap[g]? = some (.cells (qcI l ++ spareQ).toArray 74 (0, 0))

theorem RowAt.addr {w : World} {N : Nat} {a : Option Addr} {xs : List Value} (h : RowAt w N a xs) : xs ≠ [] → ∃ ad, a = some ad ∧ ∀ j v, xs[j]? = some v → w.cell? (ad.add j) = some v := by
  intro hx
  obtain ⟨b, o, h1, _, h3⟩ := h hx
  refine ⟨⟨b, o, none⟩, h1, fun j v hv => ?_⟩
  have hadd : (⟨b, o, none⟩ : Addr).add j = ⟨b, o + j, none⟩ := by unfold Addr.add; split <;> simp_all
  rw [hadd]
  exact h3 j v hv

theorem made_tail (z : Array Value) (n k : Nat) (hk : z.size = k) (hp : 0 < k) : (madeCells z ((n + 1) * k)).toList.drop (n * k) = z.toList := by
  subst hk
  apply List.ext_getElem?
  intro i
  rw [List.getElem?_drop, Array.getElem?_toList, Array.getElem?_toList]
  unfold madeCells
  by_cases c : i < z.size
  · have h1 : n * z.size + i < (n + 1) * z.size := by rw [Nat.add_mul, Nat.one_mul]; omega
    have h2 : (n * z.size + i) % z.size = i := by rw [Nat.mul_comm, Nat.mul_add_mod]; exact Nat.mod_eq_of_lt c
    simp [h1, h2, c]
  · have h1 : ¬ (n * z.size + i < (n + 1) * z.size) := by rw [Nat.add_mul, Nat.one_mul]; omega
    simp [h1, c]

end Go.Proofs.Ytdhobdmhnocbgaa

namespace Go.Proofs.Ytdhobdmhnocbgaa
open Go.RowKit Zr

theorem owns_full {w : World} {base g : Nat} {e : TypeId} {size n : Nat} {xs : List Value} (h : w.ownsRow base e size (.slice (some ⟨g, 0, none⟩) n n) n xs) : w.heap[g]? = some (.cells xs.toArray e (0, 0)) := by
  rcases h.2 with ⟨h1, _⟩ | ⟨g', cap, cur, h1, h2, h3, h4, h5, h6, h7⟩
  · cases h1
  · cases h1
    have e1 : cur.toList = xs := by rw [← h7, List.take_of_length_le]; rw [Array.length_toList, h6]; exact Nat.le_refl _
    rw [h3, ← e1]

theorem set_mark (pre : List Value) (x0 x1 v : Value) (r : List Value) (n : Nat) (hn : pre.length = n) : ((pre ++ x0 :: x1 :: r).toArray).setIfInBounds (n + 1) v = (pre ++ x0 :: v :: r).toArray := by
  subst hn
  apply Array.ext'
  simp

theorem at_mark (pre : List Value) (x0 x1 : Value) (r : List Value) (n : Nat) (hn : pre.length = n) : ((pre ++ x0 :: x1 :: r).toArray)[n + 1]? = some x1 := by
  subst hn
  simp

set_option maxRecDepth 100000 in
set_option maxHeartbeats 1000000 in
theorem roomyRecords_any (l : List RI) (a : Option Addr) (c N : Nat) (w : World) (hrow : RowAt w N a (rcI l)) (hN : N ≤ w.heap.size) (hn : l.length * 56 ≤ 140737488351232) :
    Calls Try.prog 42 #[.slice a l.length c] w fun e w' => (∃ v, e = .returned v ∧ RoomR w' w.heap.size v l) ∧ Below w.heap.size w w' := by
  obtain ⟨i0, hi, hz0, hz1, hz2⟩ := info_parts Try.info86
  have Hi := hide hi
  have Hz0 := hide hz0
  have Hz1 := hide hz1
  have Hz2 := hide hz2
  have HRow := hide (fun W (hb : Below N w W) => hrow.below hb)
  clear hi hz0 hz1 hz2 hrow
  obtain ⟨n, hln⟩ : ∃ n, l.length = n := ⟨_, rfl⟩
  rw [hln] at hn ⊢
  have hcl := rcI_len l
  rw [hln] at hcl
  have HCl := hide hcl
  have HLn := hide hln
  clear hcl hln
  go_enter Try.func42, Try.ntmps42
  have hmt := made_tail #[.string ⟨#[]⟩, .int .i64 0, .int .i64 0, .int .i64 0, .string ⟨#[]⟩] n 5 rfl (by decide)
  have hms : (madeCells #[.string ⟨#[]⟩, .int .i64 0, .int .i64 0, .int .i64 0, .string ⟨#[]⟩] ((n + 1) * 5)).size = (n + 1) * 5 := size_madeCells _ _
  have HMt := hide hmt
  have HMs := hide hms
  have HOne := hide (rcI_one l)
  obtain ⟨g, hg⟩ : ∃ g, w.heap.size = g := ⟨_, rfl⟩
  clear hmt hms
  go_wp2_with (at_make; refine wpList_make_full _ rfl _ _ 23 rfl w.heap.size 86 i0 (.agg #[.string ⟨#[]⟩, .int .i64 0, .int .i64 0, .int .i64 0, .string ⟨#[]⟩]) 5 Try.underlying23 (unhide Hi) (unhide Hz0) (unhide Hz1) .i64 .i64 ((n : Int) + 1) ((n : Int) + 1) (n + 1) (by rfl) (by rfl) (by omega) (by omega) (by rw [unhide Hz2]; omega) (by unfold maxLen; omega) (Nat.le_refl _) ?_; intro w1 hown1 hgrow1; have hg1 := owns_full hown1; rw [hg, Array.toArray_toList] at hg1; have HG1 : Hid (w1.heap[g]? = some (.cells (madeCells #[.string ⟨#[]⟩, .int .i64 0, .int .i64 0, .int .i64 0, .string ⟨#[]⟩] ((n + 1) * 5)) 86 (0, 0))) := hg1; have hB1 : Below w.heap.size w w1 := ⟨hgrow1.os, hgrow1.tape, hgrow1.output, hgrow1.size, fun k hk => hgrow1.block k hk (by simp)⟩; clear hown1 hgrow1 hg1; rw [hg])
  have hfit : (rcI l).length ≤ (madeCells #[.string ⟨#[]⟩, .int .i64 0, .int .i64 0, .int .i64 0, .string ⟨#[]⟩] ((n + 1) * 5)).size := by rw [unhide HCl, unhide HMs]; omega
  have hlen5 : (rcI l).length = n * i0.size := by rw [unhide Hz1]; exact unhide HCl
  obtain ⟨w2, hw2⟩ : ∃ w2, w1.setRow g (rcI l ++ (madeCells #[.string ⟨#[]⟩, .int .i64 0, .int .i64 0, .int .i64 0, .string ⟨#[]⟩] ((n + 1) * 5)).toList.drop (rcI l).length).toArray = w2 := ⟨_, rfl⟩
  have hg2 := setRow_heap w1 g _ (rcI l ++ (madeCells #[.string ⟨#[]⟩, .int .i64 0, .int .i64 0, .int .i64 0, .string ⟨#[]⟩] ((n + 1) * 5)).toList.drop (rcI l).length).toArray 86 _ (unhide HG1)
  have hB2 := below_setRow hB1 (show w.heap.size ≤ g by omega) (rcI l ++ (madeCells #[.string ⟨#[]⟩, .int .i64 0, .int .i64 0, .int .i64 0, .string ⟨#[]⟩] ((n + 1) * 5)).toList.drop (rcI l).length).toArray
  rw [hw2] at hg2 hB2
  rw [run_copy_wide w1 23 23 3 86 i0 g (n + 1) (n + 1) a n c _ 86 (rcI l) Try.underlying23 (unhide Hi) (unhide HG1) hlen5 (by omega) (unhide HRow _ (hB1.mono hN)).addr hfit (unhide HOne), hw2]
  have hg3 : w2.heap[g]? = some (.cells (rcI l ++ ([Value.string ⟨#[]⟩, Value.int .i64 0, Value.int .i64 0, Value.int .i64 0, Value.string ⟨#[]⟩] : List Value)).toArray 86 (0, 0)) := by
    rw [hg2, unhide HCl, unhide HMt]
  have cc := (cell_of_blk hg3 (n * 5 + 1)).trans (at_mark _ _ _ _ _ (unhide HCl))
  have zz := frozen_of_blk hg3 (n * 5 + 1)
  have HG3 := hide hg3
  clear hg2 hg3 hfit hlen5 hB1 hw2
  go_wp2_with fail
  go_ret
  refine ⟨⟨_, rfl, g, by rw [unhide HLn]; rfl, by omega, ?_⟩, hB2.setCell (show w.heap.size ≤ g by omega) _⟩
  have hfin := blk_set (unhide HG3) (n * 5 + 1) (.int .i64 77)
  rw [set_mark _ _ _ _ _ _ (unhide HCl)] at hfin
  exact hfin

end Go.Proofs.Ytdhobdmhnocbgaa

namespace Go.Proofs.Ytdhobdmhnocbgaa
open Go.RowKit Zr

set_option maxRecDepth 100000 in
set_option maxHeartbeats 1000000 in
theorem sameQuestionsI_true (l : List QI) (a a' : Option Addr) (c c' N N' : Nat) (w : World) (h1 : RowAt w N a (qcI l)) (h2 : RowAt w N' a' (qcI l)) (hn : l.length ≤ 140737488355328) :
    Calls Try.prog 78 #[.slice a l.length c, .slice a' l.length c'] w fun e w' => e = .returned (.bool true) ∧ ∃ n, w' = w.drewN n := by
  have H1 := hide h1
  have H2 := hide h2
  clear h1 h2
  have hnn : ((l.length : Int) != (l.length : Int)) = false := by simp
  go_enter Try.func78, Try.ntmps78
  go_wp2_with fail
  go_loopw [5] (fun i w' => ∃ j m : Nat, j ≤ l.length ∧ i = .int .i64 j ∧ w' = w.drewN m) (fun i _ => l.length - (intOf i).toNat)
  case atStart => exact ⟨0, 0, Nat.zero_le _, rfl, rfl⟩
  case round =>
    obtain ⟨j, m, hj, rfl, rfl⟩ := hrel
    by_cases cj : j < l.length
    · obtain ⟨b, o, rfl, _, x0, x1, x2⟩ := row_q (unhide H1) j cj
      obtain ⟨b', o', rfl, _, y0, y1, y2⟩ := row_q (unhide H2) j cj
      generalize l[j].name = nm at *
      generalize l[j].ty = ty at *
      generalize l[j].cl = cl at *
      go_wp2_with fail
      go_quiet (fail)
      go_wp2_with fail
      exact ⟨⟨j + 1, m + nq, by omega, by go_num, rfl⟩, by simp [intOf]; omega⟩
    · go_wp2_with fail
      go_ret
      exact ⟨rfl, m, rfl⟩

set_option maxRecDepth 100000 in
set_option maxHeartbeats 1000000 in
theorem sameRecordsI_true (l : List RI) (a a' : Option Addr) (c c' N N' : Nat) (w : World) (h1 : RowAt w N a (rcI l)) (h2 : RowAt w N' a' (rcI l)) (hn : l.length ≤ 140737488355328) :
    Calls Try.prog 65 #[.slice a l.length c, .slice a' l.length c'] w fun e w' => e = .returned (.bool true) ∧ ∃ n, w' = w.drewN n := by
  have H1 := hide h1
  have H2 := hide h2
  clear h1 h2
  have hnn : ((l.length : Int) != (l.length : Int)) = false := by simp
  go_enter Try.func65, Try.ntmps65
  go_wp2_with fail
  go_loopw [5] (fun i w' => ∃ j m : Nat, j ≤ l.length ∧ i = .int .i64 j ∧ w' = w.drewN m) (fun i _ => l.length - (intOf i).toNat)
  case atStart => exact ⟨0, 0, Nat.zero_le _, rfl, rfl⟩
  case round =>
    obtain ⟨j, m, hj, rfl, rfl⟩ := hrel
    by_cases cj : j < l.length
    · obtain ⟨b, o, rfl, _, x0, x1, x2, x3, x4⟩ := row_r (unhide H1) j cj
      obtain ⟨b', o', rfl, _, y0, y1, y2, y3, y4⟩ := row_r (unhide H2) j cj
      generalize l[j].name = nm at *
      generalize l[j].ty = ty at *
      generalize l[j].cl = cl at *
      generalize l[j].ttl = tl at *
      generalize l[j].data = dt at *
      go_wp2_with fail
      go_quiet (fail)
      go_wp2_with fail
      exact ⟨⟨j + 1, m + nq, by omega, by go_num, rfl⟩, by simp [intOf]; omega⟩
    · go_wp2_with fail
      go_ret
      exact ⟨rfl, m, rfl⟩

/-- No list is longer than memory can hold. -/
def Lens (m : MI) : Prop := m.q.length * 32 ≤ 140737488351232 ∧ m.a.length * 56 ≤ 140737488351232 ∧ m.u.length * 56 ≤ 140737488351232 ∧ m.x.length * 56 ≤ 140737488351232

theorem drewN_same {w w' : World} {n : Nat} (h : w' = w.drewN n) {N : Nat} {a : Option Addr} {xs : List Value} (hr : RowAt w N a xs) : RowAt w' N a xs := by
  subst h
  exact hr.below (below_drewN' (Below.refl _ _) _)

set_option maxRecDepth 100000 in
set_option maxHeartbeats 1000000 in
theorem sameMessageI_true (m : MI) (v v' : Value) (N N' : Nat) (w : World) (h1 : MsgAt w N v m) (h2 : MsgAt w N' v' m) (hl : Lens m) (hN : N ≤ w.heap.size) (hN' : N' ≤ w.heap.size) :
    Calls Try.prog 39 #[v, v'] w fun e w' => e = .returned (.bool true) ∧ Below w.heap.size w w' := by
  obtain ⟨a1, c1, a2, c2, a3, c3, a4, c4, rfl, o1, o2, o3, o4, _⟩ := h1
  obtain ⟨b1, d1, b2, d2, b3, d3, b4, d4, rfl, r1, r2, r3, r4, _⟩ := h2
  obtain ⟨s1, s2, s3, s4⟩ := hl
  obtain ⟨id, fl, q, a, u, x⟩ := m
  simp only at *
  have hb : ∀ A B n, Below w.heap.size w (((w.alloc A).alloc B).drewN n) := fun A B n => below_drewN' (((Below.refl _ _).alloc (Nat.le_refl _) _).alloc (by simp) _) n
  have key1 := fun W (h : ∃ A B n, W = ((w.alloc A).alloc B).drewN n) => sameQuestionsI_true q a1 b1 c1 d1 N N' W (by obtain ⟨A, B, n, rfl⟩ := h; exact o1.below ((hb A B n).mono hN)) (by obtain ⟨A, B, n, rfl⟩ := h; exact r1.below ((hb A B n).mono hN')) (by omega)
  have key2 := fun W (h : ∃ A B n, W = ((w.alloc A).alloc B).drewN n) => sameRecordsI_true a a2 b2 c2 d2 N N' W (by obtain ⟨A, B, n, rfl⟩ := h; exact o2.below ((hb A B n).mono hN)) (by obtain ⟨A, B, n, rfl⟩ := h; exact r2.below ((hb A B n).mono hN')) (by omega)
  have key3 := fun W (h : ∃ A B n, W = ((w.alloc A).alloc B).drewN n) => sameRecordsI_true u a3 b3 c3 d3 N N' W (by obtain ⟨A, B, n, rfl⟩ := h; exact o3.below ((hb A B n).mono hN)) (by obtain ⟨A, B, n, rfl⟩ := h; exact r3.below ((hb A B n).mono hN')) (by omega)
  have key4 := fun W (h : ∃ A B n, W = ((w.alloc A).alloc B).drewN n) => sameRecordsI_true x a4 b4 c4 d4 N N' W (by obtain ⟨A, B, n, rfl⟩ := h; exact o4.below ((hb A B n).mono hN)) (by obtain ⟨A, B, n, rfl⟩ := h; exact r4.below ((hb A B n).mono hN')) (by omega)
  have K1 := hide key1
  have K2 := hide key2
  have K3 := hide key3
  have K4 := hide key4
  have HB := hide hb
  clear key1 key2 key3 key4 o1 o2 o3 o4 r1 r2 r3 r4 hb
  have hii : (id == id) = true := by simp
  have hff : (fl == fl) = true := by simp
  go_enter Try.func39, Try.ntmps39
  go_wp2_with fail
  refine (unhide K1 _ ⟨_, _, 0, rfl⟩).mono ?_
  rintro e w1 ⟨rfl, n1, rfl⟩
  go_wp2_with fail
  refine (unhide K2 _ ⟨_, _, n1, rfl⟩).mono ?_
  rintro e w1 ⟨rfl, n2, rfl⟩
  go_wp2_with fail
  refine (unhide K3 _ ⟨_, _, n1 + n2, rfl⟩).mono ?_
  rintro e w1 ⟨rfl, n3, rfl⟩
  go_wp2_with fail
  refine (unhide K4 _ ⟨_, _, n1 + n2 + n3, rfl⟩).mono ?_
  rintro e w1 ⟨rfl, n4, rfl⟩
  go_wp2_with fail
  go_ret
  exact ⟨rfl, unhide HB _ _ _⟩

/-- A list with room reads as the list. -/
theorem RoomR.row {w : World} {N : Nat} {v : Value} {l : List RI} (h : RoomR w N v l) : ∃ g, v = .slice (some ⟨g, 0, none⟩) l.length (l.length + 1) ∧ N ≤ g ∧ g < w.heap.size ∧ RowAt w w.heap.size (some ⟨g, 0, none⟩) (rcI l) := by
  obtain ⟨g, h1, h2, h3⟩ := h
  refine ⟨g, h1, h2, blk_lt h3, fun _ => ⟨g, 0, rfl, blk_lt h3, fun j u hu => ?_⟩⟩
  rw [Nat.zero_add, cell_of_blk h3]
  have hj := (List.getElem?_eq_some_iff.1 hu).1
  rw [List.getElem?_toArray, List.getElem?_append_left hj]
  exact hu
theorem RoomQ.row {w : World} {N : Nat} {v : Value} {l : List QI} (h : RoomQ w N v l) : ∃ g, v = .slice (some ⟨g, 0, none⟩) l.length (l.length + 1) ∧ N ≤ g ∧ g < w.heap.size ∧ RowAt w w.heap.size (some ⟨g, 0, none⟩) (qcI l) := by
  obtain ⟨g, h1, h2, h3⟩ := h
  refine ⟨g, h1, h2, blk_lt h3, fun _ => ⟨g, 0, rfl, blk_lt h3, fun j u hu => ?_⟩⟩
  rw [Nat.zero_add, cell_of_blk h3]
  have hj := (List.getElem?_eq_some_iff.1 hu).1
  rw [List.getElem?_toArray, List.getElem?_append_left hj]
  exact hu
theorem RoomR.below {w w' : World} {N : Nat} {v : Value} {l : List RI} (h : RoomR w N v l) (hb : Below w.heap.size w w') : RoomR w' N v l := by
  obtain ⟨g, h1, h2, h3⟩ := h
  exact ⟨g, h1, h2, (hb.block g (blk_lt h3)).trans h3⟩
theorem RoomQ.below {w w' : World} {N : Nat} {v : Value} {l : List QI} (h : RoomQ w N v l) (hb : Below w.heap.size w w') : RoomQ w' N v l := by
  obtain ⟨g, h1, h2, h3⟩ := h
  exact ⟨g, h1, h2, (hb.block g (blk_lt h3)).trans h3⟩

set_option maxRecDepth 100000 in
set_option maxHeartbeats 1000000 in
theorem wholeRecords_true (l : List RI) (v : Value) (a : Option Addr) (c N N' : Nat) (w : World) (h : RoomR w N v l) (h2 : RowAt w N' a (rcI l)) (hn : l.length * 56 ≤ 140737488351232) :
    Calls Try.prog 48 #[v, .slice a l.length c] w fun e w' => e = .returned (.bool true) ∧ Below w.heap.size w w' := by
  obtain ⟨g, rfl, _, hlt, hrow⟩ := h.row
  obtain ⟨g', e1, _, hg⟩ := h
  cases e1
  have Key := hide (sameRecordsI_true l (some ⟨g, 0, none⟩) a (l.length + 1) c w.heap.size N' w hrow h2 (by omega))
  have hc := (cell_of_blk hg (l.length * 5 + 1)).trans (at_mark _ _ _ _ _ (rcI_len l))
  clear hrow h2 hg
  have h77 : ((77 : Int) == 77) = true := rfl
  go_enter Try.func48, Try.ntmps48
  go_wp2_with fail
  refine (unhide Key).mono ?_
  rintro e w1 ⟨rfl, n1, rfl⟩
  have hcc : (w.drewN n1).cell? ⟨g, l.length * 5 + 1, none⟩ = some (.int .i64 77) := hc
  generalize l.length = n at *
  go_wp2_with fail
  go_ret
  exact ⟨rfl, below_drewN' (Below.refl _ _) _⟩

end Go.Proofs.Ytdhobdmhnocbgaa
