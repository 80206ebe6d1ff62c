/-
  Walks: the reader's method name.
-/
/-
  Walks: rows of pieces, the data of an SRV (isRow, isService).
-/
/-
  Walks: data by the type (fitsPlain, wholeNames, wholeData, the reader's method data).
-/
/-
  Walks: wholeData, the reader's method data.
-/
/-
  Walks: the reader's methods data, question, record.
-/
/-
  The reader's methods, by its state: a place, or what it failed with.
-/
/-
  Walks: the reader's methods question, record.
-/
/-
  Walks: the reader's methods questions, records.
-/
/-
  Walks: the reader's method records.
-/
/-
  Walks: the reader's method message.
-/
/-
  Walks: a chunk is pushed.
-/
import Derived.Test.YtdhobdmhnocbgaaDoorSStA
import Derived.Test.YtdhobdmhnocbgaaDoorSNames
import Derived.Deep.RegionHeld3
import Derived.Deep.LoopGhost
import Derived.Deep.DeepCutAuto
import Derived.Test.YtdhobdmhnocbgaaDoorSDatas
import Derived.Test.YtdhobdmhnocbgaaDoorSRecs
import Derived.Deep.AppendLies
namespace Go.Proofs.YtdhobdmhnocbgaaDoor
open Go.RowKit Zr

end Go.Proofs.YtdhobdmhnocbgaaDoor

namespace Go.Proofs.YtdhobdmhnocbgaaDoor
open Go.RowKit Zr

end Go.Proofs.YtdhobdmhnocbgaaDoor

namespace Go.Proofs.YtdhobdmhnocbgaaDoor
open Go.RowKit Zr

end Go.Proofs.YtdhobdmhnocbgaaDoor

namespace Go.Proofs.YtdhobdmhnocbgaaDoor
open Go.RowKit Zr

end Go.Proofs.YtdhobdmhnocbgaaDoor

namespace Go.Proofs.YtdhobdmhnocbgaaDoor
open Go.RowKit Zr

end Go.Proofs.YtdhobdmhnocbgaaDoor

namespace Go.Proofs.YtdhobdmhnocbgaaDoor
open Go.RowKit Zr

/-- What the reader fails with, as its third cell has it. -/
def failOf (st : Except Int Nat) : Int := match st with
  | .ok _ => 0
  | .error x => x

def numSt (b : ByteArray) (st : Except Int Nat) (n : Nat) : Except Int Nat × Nat :=
  match st with
  | .ok p => if p + n ≤ b.size then (.ok (p + n), num b p n) else (.error 2, 0)
  | .error x => (.error x, 0)

def nameSt (b : ByteArray) (st : Except Int Nat) : Except Int Nat × ByteArray :=
  match st with
  | .ok p => match nameAt b p with
    | .ok (s, t) => (.ok (p + t), s)
    | .error x => (.error x, ⟨#[]⟩)
  | .error x => (.error x, ⟨#[]⟩)

def dataSt (b : ByteArray) (st : Except Int Nat) (t : Nat) : Except Int Nat × ByteArray :=
  match st with
  | .ok p => if b.size < p + 2 ∨ b.size < p + 2 + num b p 2 then (.error 2, ⟨#[]⟩) else match dataP b (p + 2) (num b p 2) t with
    | none => (.error 4, ⟨#[]⟩)
    | some d => (.ok (p + 2 + num b p 2), d)
  | .error x => (.error x, ⟨#[]⟩)

end Go.Proofs.YtdhobdmhnocbgaaDoor

namespace Go.Proofs.YtdhobdmhnocbgaaDoor
open Go.RowKit Zr

end Go.Proofs.YtdhobdmhnocbgaaDoor

namespace Go.Proofs.YtdhobdmhnocbgaaDoor
open Go.RowKit Zr

/-- What one question leaves of the list so far. -/
def QsNext (b : ByteArray) (p : Nat) (s : ByteArray) (ty cl : Nat) (st : Except Int Nat) : Prop :=
  (∃ q p', questionAt b p = .ok (q, p') ∧ st = .ok p' ∧ s = q.name ∧ ty = q.ty ∧ cl = q.cl) ∨ (∃ x, questionAt b p = .error x ∧ st = .error x)

def qcells : List Qs → List Value
  | [] => []
  | q :: l => .string q.name :: .int .i64 q.ty :: .int .i64 q.cl :: qcells l
theorem grown_row {w w1 w2 : World} {R : Nat} {row : Option Nat} (h : w.grownBy w1 (some R)) (hg : w1.grownBy w2 row) (hr : ∀ k, row = some k → w.heap.size ≤ k) : w.grownBy w2 (some R) :=
  ⟨hg.os.trans h.os, hg.tape.trans h.tape, hg.output.trans h.output, Nat.le_trans h.size hg.size, fun k hk hne =>
    (hg.block k (Nat.lt_of_lt_of_le hk h.size) (fun e => by have := hr k e.symm; omega)).trans (h.block k hk hne)⟩

/-- What the list of questions comes to. -/
def qsSt (b : ByteArray) (st : Except Int Nat) (n : Nat) : Except Int (List Qs × Nat) :=
  match st with
  | .ok p => qsTo b p n
  | .error x => .error x

end Go.Proofs.YtdhobdmhnocbgaaDoor

namespace Go.Proofs.YtdhobdmhnocbgaaDoor
open Go.RowKit Zr

def recSt (b : ByteArray) (st : Except Int Nat) : Except Int Nat × Rc :=
  let a1 := nameSt b st
  let a2 := numSt b a1.1 2
  let a3 := numSt b a2.1 2
  let a4 := numSt b a3.1 4
  let a5 := dataSt b a4.1 a2.2
  (a5.1, ⟨a1.2, a2.2, a3.2, a4.2, a5.2⟩)

def rcells : List Rc → List Value
  | [] => []
  | x :: l => .string x.name :: .int .i64 x.ty :: .int .i64 x.cl :: .int .i64 x.ttl :: .string x.data :: rcells l
/-- What holds of the loop's state after j records. -/
def RcInv (b : ByteArray) (part k j : Nat) (cs : List Value) (st : Except Int Nat) (mo : Bool) : Prop :=
  (∃ l p, st = .ok p ∧ rcTo b part k j = .ok (l, p) ∧ cs = rcells l ∧ mo = (part == 2 && !(l.any (fun y => y.ty == 41)))) ∨ (∃ x, st = .error x ∧ rcTo b part k j = .error x)

end Go.Proofs.YtdhobdmhnocbgaaDoor

namespace Go.Proofs.YtdhobdmhnocbgaaDoor
open Go.RowKit Zr

def stOfQ (r : Except Int (List Qs × Nat)) : Except Int Nat := match r with
  | .ok (_, p) => .ok p
  | .error x => .error x
def stOfR (r : Except Int (List Rc × Nat)) : Except Int Nat := match r with
  | .ok (_, p) => .ok p
  | .error x => .error x
def rcSt (b : ByteArray) (part : Nat) (st : Except Int Nat) (n : Nat) : Except Int (List Rc × Nat) :=
  match st with
  | .ok p => rcTo b part p n
  | .error x => .error x

def QRow (r : Except Int (List Qs × Nat)) (m : Nat) (cs : List Value) : Prop := ∀ l p, r = .ok (l, p) → m = l.length ∧ cs = qcells l
def RRow (r : Except Int (List Rc × Nat)) (m : Nat) (cs : List Value) : Prop := ∀ l p, r = .ok (l, p) → m = l.length ∧ cs = rcells l

theorem owns_shape {w : World} {N : Nat} {e : TypeId} {size : Nat} {v : Value} {n : Nat} {xs : List Value} (h : w.ownsRow N e size v n xs) : ∃ a c, v = .slice a n c := by
  rcases h.2 with ⟨rfl, rfl⟩ | ⟨g, cap, cur, rfl, _⟩
  · exact ⟨_, _, rfl⟩
  · exact ⟨_, _, rfl⟩
def Apart (u v : Value) : Prop := ∀ g, u.ownBlock = some g → v.ownBlock ≠ some g

end Go.Proofs.YtdhobdmhnocbgaaDoor

namespace Go.Proofs.YtdhobdmhnocbgaaDoor
open Go.RowKit Zr

theorem cut_first {b : ByteArray} (h : isWhl b) : cutP b 0 = (firstM b :: (cutP (firstR b) 0).1, (cutP (firstR b) 0).2) := by
  have h' := (isWhl_iff b).1 h
  have e : sizeP b = 2 + num b 0 2 := by unfold sizeP; rw [if_neg (by omega)]
  unfold firstM firstR
  rw [if_pos h, if_pos h, cut_yes h', e]
  have := cut_shift b (2 + num b 0 2) 0 (by omega)
  rw [Nat.add_zero] at this
  rw [Nat.zero_add, this]

theorem cut_none {b : ByteArray} (h : ¬ isWhl b) : cutP b 0 = ([], b.size) := cut_no fun h' => h ((isWhl_iff b).2 h')

theorem left_none {b : ByteArray} (h : ¬ isWhl b) : leftP b = b := by
  unfold leftP
  rw [cut_none h]
  simp only [Nat.sub_self]
  exact extract_all b

theorem left_first {b : ByteArray} (h : isWhl b) : leftP b = leftP (firstR b) := by
  have h' := h
  unfold isWhl at h'
  have hr : firstR b = b.extract (sizeP b) b.size := by unfold firstR; rw [if_pos h]
  have hz : (firstR b).size = b.size - sizeP b := by rw [hr, extract_size _ _ h']
  have hc := cut_first h
  have hl := cut_le (firstR b) 0
  unfold leftP
  rw [hc]
  simp only
  have m := ext_mid b (sizeP b) ((firstR b).size - (cutP (firstR b) 0).2) (firstR b).size (by omega) (by omega)
  rw [← hr] at m
  rw [m]
  congr 1 <;> omega

theorem waits_none {e l : ByteArray} (h : waitsP e l) : ¬ isWhl (e ++ l) := by
  obtain ⟨_, h2⟩ := h
  unfold isWhl
  rw [ByteArray.size_append]
  have : sizeP e ≤ sizeP (e ++ l) := by
    unfold sizeP
    rw [ByteArray.size_append]
    by_cases c : e.size < 2
    · rw [if_pos c]; split <;> omega
    · rw [if_neg c, if_neg (by omega), num_left e l 0 2 (by omega)]
      exact Nat.le_refl _
  omega

/-- The cells of a list of texts. -/
def stC (l : List ByteArray) : List Value := l.map Value.string

theorem stC_append (a b : List ByteArray) : stC (a ++ b) = stC a ++ stC b := by simp [stC]
theorem stC_len (a : List ByteArray) : (stC a).length = a.length := by simp [stC]

theorem Tryd.info9 : (Tryd.prog.info? 9).map (fun i => (i.zero, i.size, i.bytes)) = some (some (.string ⟨#[]⟩), 1, 16) := by kernel_rfl

theorem cell_one_st (w : World) (x0 : Value) (t : TypeId) (B : Nat) (hB : B = w.heap.size) : ∀ j u, [x0][j]? = some u → (w.alloc (.cells #[x0] t)).cell? ((⟨B, 0, none⟩ : Addr).add j) = some u := by
  subst hB
  exact World.news_of_block (cs := #[x0]) (heap_alloc_new w _)

/-- string([]byte(s)). -/
theorem conv_twice (w : World) (s : ByteArray) : ∃ c w', (convert 9 59 (.string s)).run Tryd.prog w = .ok (.slice (some ⟨w.heap.size, 0, none⟩) s.size c) w' ∧ Below w.heap.size w w' ∧ (convert 59 9 (.slice (some ⟨w.heap.size, 0, none⟩) s.size c)).run Tryd.prog w' = .ok (.string s) w' := by
  refine ⟨_, _, run_bytes_of_string w 9 59 5 s Tryd.underlying9 Tryd.underlying59 Tryd.underlying5, ⟨rfl, rfl, rfl, by simp, fun k hk => heap_alloc_old w.drew _ hk⟩, ?_⟩
  have h := run_convert_bytes_back (P := Tryd.prog) (w.drew.alloc (.cells (bytesRow s (grownCap w s.size 0 5)) 5 ((bytesRow s (grownCap w s.size 0 5)).size, (bytesRow s (grownCap w s.size 0 5)).size + 1))) 59 9 5 ⟨w.heap.size, 0, none⟩ (grownCap w s.size 0 5) s.data.toList Tryd.underlying59 Tryd.underlying5 Tryd.underlying9 (fun j hj => by
    have hn : ∀ o : Obj, (w.drew.alloc o).heap[w.heap.size]? = some o := fun o => heap_alloc_new w.drew o
    have hj' : j < s.data.size := by simpa using hj
    simp only [World.cell?, Addr.add_lit, Nat.zero_add, hn]
    unfold bytesRow
    rw [Array.getElem?_append_left (by simpa using hj')]
    simp
    exact ⟨s.data[j], by simp, rfl⟩)
  have hl : s.data.toList.length = s.size := by rw [Array.length_toList]; rfl
  rw [hl] at h
  exact h

/-- The feed in block R, into which p has been pushed. -/
def FdAt (w : World) (R : Nat) (p : ByteArray) : Prop := ∃ e l, w.heap[R]? = some (fdr e l) ∧ e ++ l = leftP p

/-- What Push answers. -/
def PushPost (w : World) (R : Nat) (p chunk : ByteArray) (r : Ending) (w' : World) : Prop :=
  ∃ (L : List ByteArray) (a : Option Addr) (c : Nat), cutP (leftP p ++ chunk) 0 = (L, (cutP (leftP p ++ chunk) 0).2) ∧ r = .returned (.slice a L.length c) ∧ w'.ownsRow w.heap.size 9 1 (.slice a L.length c) L.length (stC L) ∧ FdAt w' R (p ++ chunk) ∧ w.grownBy w' (some R)

set_option maxRecDepth 100000 in
set_option maxHeartbeats 2000000 in
theorem push_s (R : Nat) (p chunk : ByteArray) (w : World) (h : FdAt w R p) (hz : p.size + chunk.size ≤ 67108864) :
    Calls Tryd.prog 22 #[.pointer (some ⟨R, 0, none⟩), .string chunk] w fun r w' => PushPost w R p chunk r w' := by
  obtain ⟨e, l, hR, hel⟩ := h
  have hlt := blk_lt hR
  have hsz : e.size + l.size ≤ p.size := by
    have h1 := congrArg ByteArray.size hel
    rw [ByteArray.size_append, left_size] at h1
    have := cut_le p 0
    omega
  obtain ⟨c0, c1, z0, z1⟩ := fdr_cells hR
  have hR1 : (w.setCell ⟨R, 1, none⟩ (.string (l ++ chunk))).heap[R]? = some (fdr e (l ++ chunk)) := blk_set hR _ _
  have hg1 : w.grownBy (w.setCell ⟨R, 1, none⟩ (.string (l ++ chunk))) (some R) := grown_set _ _ _ _
  have HR1 := hide hR1
  have HG1 := hide hg1
  have HEL := hide hel
  clear hR hel hR1 hg1
  go_enter Tryd.func22, Tryd.ntmps22
  go_wp2_with fail
  generalize hw1 : w.setCell ⟨R, 1, none⟩ (.string (l ++ chunk)) = w1 at *
  have hll : (l ++ chunk).size = l.size + chunk.size := ByteArray.size_append
  have hell : leftP p ++ chunk = e ++ (l ++ chunk) := by rw [← unhide HEL, ByteArray.append_assoc]
  have HELL := hide hell
  generalize l ++ chunk = l1 at *
  clear hell c0 c1 z0 z1 hw1
  refine (waits_s R e l1 w1 (unhide HR1) (by omega)).mono ?_
  rintro r w2 ⟨rfl, n2, rfl⟩
  obtain ⟨c0, c1, z0, z1⟩ := fdr_cells (unhide HR1)
  by_cases cw : waitsP e l1
  · have hd : decide (waitsP e l1) = true := decide_eq_true cw
    rw [hd]
    have hn := waits_none cw
    clear hd
    go_wp2_with fail
    go_ret
    refine ⟨[], none, 0, ?_, rfl, World.ownsRow_nil _ _ _ _, ?_, ?_⟩
    · rw [unhide HELL, cut_none hn]
    · refine ⟨e, l1, unhide HR1, ?_⟩
      rw [left_chunk, unhide HELL, left_none hn]
    · exact grown_trans (unhide HG1) (grown_drewN _ _ _)
  · have hd : decide (waitsP e l1) = false := decide_eq_false cw
    rw [hd]
    clear hd
    go_wp2_with fail
    go_quiet (fail)
    go_wp2_with fail
    have hes : (e ++ l1).size = e.size + l1.size := ByteArray.size_append
    generalize e ++ l1 = s at *
    refine (first_s s _ (by omega)).mono ?_
    rintro r w3 ⟨rfl, n3, rfl⟩
    go_wp2_with fail
    have hlt1 : w.heap.size ≤ w1.heap.size := (unhide HG1).size
    obtain ⟨M, hM⟩ : ∃ M, w.heap.size = M := ⟨_, rfl⟩
    rw [hM] at hlt hlt1
    have HM := hide hM
    have H3 := hide (grown_trans (unhide HG1) (grown_drewN _ (n2 + nq + n3) _))
    have HF3 : Hid ((w1.drewN (n2 + nq + n3)).heap[R]? = some (fdr e l1)) := HR1
    have hs3 : M ≤ (w1.drewN (n2 + nq + n3)).heap.size := hlt1
    obtain ⟨i0, hi, hz0, hz1, hz2⟩ := info_parts Tryd.info9
    have Hi := hide hi
    have Hz0 := hide hz0
    have Hz1 := hide hz1
    have Hz2 := hide hz2
    clear hi hz0 hz1 hz2 hM c0 c1 z0 z1 hlt1 HG1 HR1
    generalize w1.drewN (n2 + nq + n3) = w3 at *
    go_loopg [5, 6, 7, 8, 9] (s.size + 1) (fun g vl vh vm vr vf w' => ∃ (L : List ByteArray) (j : Nat) (ar : Option Addr) (cr : Nat) (h : ByteArray), vl = .slice ar j cr ∧ vh = .string h ∧ vm = .string (firstM h) ∧ vr = .string (firstR h) ∧ vf = .bool (decide (isWhl h)) ∧ j + h.size ≤ s.size ∧ g = h.size + 1 ∧ Hid (L.length = j) ∧ Hid (cutP s 0 = (L ++ (cutP h 0).1, (cutP h 0).2)) ∧ Hid (leftP s = leftP h) ∧ Hid (w'.ownsRow M 9 1 (.slice ar j cr) j (stC L)) ∧ Hid (w'.heap[R]? = some (fdr e l1)) ∧ Hid (w.grownBy w' (some R)) ∧ M ≤ w'.heap.size)
    case atStart => exact ⟨[], 0, none, 0, s, rfl, rfl, rfl, rfl, rfl, by omega, rfl, hide rfl, hide rfl, hide rfl, hide (World.ownsRow_nil _ _ _ _), HF3, H3, hs3⟩
    case round =>
      obtain ⟨L, j, ar, cr, h, rfl, rfl, rfl, rfl, rfl, hjh, rfl, HL, HC, HLE, HO, HF, HG, hs⟩ := hrel
      by_cases ch : isWhl h
      · have hd : decide (isWhl h) = true := decide_eq_true ch
        rw [hd]
        have hrs : (firstR h).size + 2 ≤ h.size := by
          have h1 : firstR h = h.extract (sizeP h) h.size := by unfold firstR; rw [if_pos ch]
          have h2 := size_ge h
          have h3 := ch
          unfold isWhl at h3
          rw [h1, extract_size _ _ h3]
          omega
        have HC1 := hide (cut_first ch)
        have HL1 := hide (left_first ch)
        clear hd ch
        generalize firstM h = m at *
        generalize firstR h = rr at *
        go_wp2_with (at_builtin; refine wpList_append_row _ rfl _ _ 22 22 rfl M 9 i0 (.string ⟨#[]⟩) 1 16 Tryd.underlying22 (unhide Hi) (unhide Hz0) (unhide Hz1) (unhide Hz2) rfl (.slice ar j cr) j (stC L) (by rfl) ((unhide HO).alloc _) (.slice (some ⟨wr.heap.size, 0, none⟩) 1 1) 1 [.string m] (by rfl) (Src.ofSlice _ Tryd.underlying22 ⟨wr.heap.size, 0, none⟩ 1 1 _ rfl (cell_one_st _ _ _ _ rfl) (fun x hx => by simp at hx; subst hx; rfl)) (by unfold maxLen; omega) (by omega) (by simp; omega) ?_; intro a1 e1 w4 hown4 hgrow4 hat4)
        have hb4 := (Below.refl wr.heap.size wr).alloc (Nat.le_refl _) (.cells #[.string m] 9)
        have hne : ∀ k, k < M → (Value.slice ar j cr).ownBlock ≠ some k := fun k hk he => by have := ((unhide HO).lt k he).1; omega
        have HF4 := hide ((hgrow4.block R (by simp; omega) (fun he => hne R hlt he.symm)).trans ((hb4.block R (by omega)).trans (unhide HF)))
        have HG4 := hide (grown_row (unhide HG) (grown_trans (grown_below hb4) hgrow4) (fun k hk => by rw [unhide HM]; exact ((unhide HO).lt k hk).1))
        have HO4 := hide hown4
        have hs4 : M ≤ w4.heap.size := by have := hgrow4.size; have := hb4.size; omega
        clear hb4 hgrow4 hown4 hat4
        refine (first_s rr _ (by omega)).mono ?_
        rintro r w5 ⟨rfl, n5, rfl⟩
        go_wp2_with fail
        go_roundg (rr.size + 1)
        case measure => omega
        case rel =>
          refine ⟨L ++ [m], j + 1, a1, e1, rr, rfl, rfl, rfl, rfl, rfl, by omega, rfl, hide (by rw [List.length_append, unhide HL]; rfl), hide ?_, hide ((unhide HLE).trans (unhide HL1)), hide (by rw [stC_append]; exact unhide HO4), HF4, hide (grown_trans (unhide HG4) (grown_drewN _ _ _)), hs4⟩
          rw [unhide HC, unhide HC1]
          simp
      · have hd : decide (isWhl h) = false := decide_eq_false ch
        rw [hd]
        obtain ⟨c9, w9, hc1, hb9, hc2⟩ := conv_twice wr h
        have hR9 := (hb9.block R (blk_lt (unhide HF))).trans (unhide HF)
        obtain ⟨c0, c1, z0, z1⟩ := fdr_cells hR9
        obtain ⟨d0, d1, y0, y1⟩ := fdr_cells (unhide HF)
        have HR9 := hide hR9
        have HB9 := hide hb9
        clear hR9 hb9 hd
        go_wp2_with fail
        go_ret
        have hu := unhide HC
        rw [cut_none ch, List.append_nil] at hu
        refine ⟨L, ar, cr, ?_, by rw [unhide HL]; rfl, ?_, ⟨h, ⟨#[]⟩, ?_, ?_⟩, ?_⟩
        · rw [unhide HELL, hu]
        · rw [unhide HL, unhide HM]
          exact (unhide HO).kept (grown_trans (grown_below (unhide HB9)) (grown_trans (grown_set _ R _ _) (grown_set _ R _ _))) (.inr (fun he => by have := ((unhide HO).lt R he).1; omega))
        · exact blk_set (blk_set (unhide HR9) 0 _) 1 _
        · rw [show h ++ (⟨#[]⟩ : ByteArray) = h from ByteArray.append_empty, left_chunk, unhide HELL, unhide HLE, left_none ch]
        · exact grown_trans (unhide HG) (grown_trans (grown_below (unhide HB9)) (grown_trans (grown_set _ R _ _) (grown_set _ R _ _)))

end Go.Proofs.YtdhobdmhnocbgaaDoor
