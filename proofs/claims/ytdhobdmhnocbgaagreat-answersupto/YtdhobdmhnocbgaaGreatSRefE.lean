/-
  The plain side of the document's Parse: part by part.
-/
/-
  Walks over the document's own answer: Parse.
-/
import Derived.Test.YtdhobdmhnocbgaaGreatSParseX
import Derived.Test.YtdhobdmhnocbgaaGreatSRefD
namespace Go.Proofs.YtdhobdmhnocbgaaGreat.Zr

def setPart (m : Msg) (i : Nat) (l : List Rc) : Msg :=
  if i = 0 then { m with a := l } else if i = 1 then { m with u := l } else { m with x := l }

def partsTo (b : ByteArray) (m0 : Msg) (p1 : Nat) : Nat → Except Int (Msg × Nat)
  | 0 => .ok (m0, p1)
  | i + 1 => match partsTo b m0 p1 i with
    | .error e => .error e
    | .ok (m, p) => match rcTo b i p (num b (2 * (3 + i)) 2) with
      | .error e => .error e
      | .ok (l, p') => .ok (setPart m i l, p')

/-- The message that the records are put into. -/
def msgQ (b : ByteArray) (q : List Qs) : Msg := ⟨num b 0 2, num b 2 2, q, [], [], []⟩

theorem parseP_parts (b : ByteArray) (h : b.size ≤ 65535) (h12 : 12 ≤ b.size) : parseP b = match qsTo b 12 (num b 4 2) with
    | .error e => .error e
    | .ok (q, p1) => match partsTo b (msgQ b q) p1 3 with
      | .error e => .error e
      | .ok (m, p) => if p ≠ b.size then .error 6 else .ok m := by
  unfold parseP
  rw [if_neg (by omega), if_neg (by omega)]
  cases qsTo b 12 (num b 4 2) with
  | error e => rfl
  | ok z =>
    obtain ⟨q, p1⟩ := z
    simp only [partsTo]
    have e0 : 2 * (3 + 0) = 6 := rfl
    have e1 : 2 * (3 + 1) = 8 := rfl
    have e2 : 2 * (3 + 2) = 10 := rfl
    rw [e0]
    cases rcTo b 0 p1 (num b 6 2) with
    | error e => rfl
    | ok z =>
      obtain ⟨a, p2⟩ := z
      simp only
      rw [e1]
      cases rcTo b 1 p2 (num b 8 2) with
      | error e => rfl
      | ok z =>
        obtain ⟨u, p3⟩ := z
        simp only
        rw [e2]
        cases rcTo b 2 p3 (num b 10 2) with
        | error e => rfl
        | ok z => rfl

theorem parse_err_q (b : ByteArray) (h : b.size ≤ 65535) (h12 : 12 ≤ b.size) (j : Nat) (hj : j ≤ num b 4 2) (x : Int) (he : qsTo b 12 j = .error x) : parseP b = .error x := by
  rw [parseP_parts b h h12, qsTo_err b 12 j x he _ hj]

theorem partsTo_err (b : ByteArray) (m0 : Msg) (p1 j : Nat) (x : Int) (h : partsTo b m0 p1 j = .error x) : ∀ i, j ≤ i → partsTo b m0 p1 i = .error x := by
  intro i hi
  obtain ⟨d, rfl⟩ : ∃ d, i = j + d := ⟨i - j, by omega⟩
  clear hi
  induction d with
  | zero => exact h
  | succ d ih => rw [← Nat.add_assoc, partsTo, ih]

theorem parse_err_p (b : ByteArray) (h : b.size ≤ 65535) (h12 : 12 ≤ b.size) (q : List Qs) (p1 : Nat) (hq : qsTo b 12 (num b 4 2) = .ok (q, p1)) (i : Nat) (hi : i < 3) (m : Msg) (p : Nat) (hp : partsTo b (msgQ b q) p1 i = .ok (m, p))
    (j : Nat) (hj : j ≤ num b (2 * (3 + i)) 2) (x : Int) (he : rcTo b i p j = .error x) : parseP b = .error x := by
  have h1 : partsTo b (msgQ b q) p1 (i + 1) = .error x := by
    rw [partsTo, hp]; simp only; rw [rcTo_err b i p j x he _ hj]
  rw [parseP_parts b h h12, hq]
  simp only
  rw [partsTo_err b _ p1 (i + 1) x h1 3 (by omega)]

theorem parse_end (b : ByteArray) (h : b.size ≤ 65535) (h12 : 12 ≤ b.size) (q : List Qs) (p1 : Nat) (hq : qsTo b 12 (num b 4 2) = .ok (q, p1)) (m : Msg) (p : Nat) (hp : partsTo b (msgQ b q) p1 3 = .ok (m, p)) :
    parseP b = if p ≠ b.size then .error 6 else .ok m := by
  rw [parseP_parts b h h12, hq]
  simp only
  rw [hp]

theorem partsTo_next (b : ByteArray) (m0 : Msg) (p1 i : Nat) (m : Msg) (p : Nat) (hp : partsTo b m0 p1 i = .ok (m, p)) (l : List Rc) (p' : Nat) (hl : rcTo b i p (num b (2 * (3 + i)) 2) = .ok (l, p')) : partsTo b m0 p1 (i + 1) = .ok (setPart m i l, p') := by
  rw [partsTo, hp]; simp only; rw [hl]

end Go.Proofs.YtdhobdmhnocbgaaGreat.Zr
namespace Go.Proofs.YtdhobdmhnocbgaaGreat
open Go.RowKit Zr

def Under (v : Value) (M : Nat) : Prop := ∀ g, v.ownBlock = some g → g < M
theorem under_of {w : World} {N : Nat} {e : TypeId} {size : Nat} {v : Value} {n : Nat} {xs : List Value} (h : w.ownsRow N e size v n xs) : Under v w.heap.size := fun g hg => (h.lt g hg).2
theorem Apart.symm {u v : Value} (h : Apart u v) : Apart v u := fun g hv hu => h g hu hv

/-- The message's lists lie below M. -/
def MsgUnder (v : Value) (M : Nat) : Prop := ∀ i f s1 s2 s3 s4, v = .agg #[i, f, s1, s2, s3, s4] → Under s1 M ∧ Under s2 M ∧ Under s3 M ∧ Under s4 M

theorem MsgIs.under {w : World} {N : Nat} {v : Value} {m : Msg} (h : MsgIs w N v m) : MsgUnder v w.heap.size := by
  obtain ⟨a1, c1, a2, c2, a3, c3, a4, c4, rfl, o1, o2, o3, o4, _⟩ := h
  intro i f s1 s2 s3 s4 hv
  simp only [Value.agg.injEq, Array.mk.injEq, List.cons.injEq, and_true] at hv
  obtain ⟨_, _, rfl, rfl, rfl, rfl⟩ := hv
  exact ⟨under_of o1, under_of o2, under_of o3, under_of o4⟩

theorem MsgIs.grown {w w' : World} {N M : Nat} {v : Value} {m : Msg} {row : Option Nat} (h : MsgIs w N v m) (hu : MsgUnder v M) (hg : w.grownBy w' row) (hr : ∀ g, row = some g → M ≤ g) : MsgIs w' N v m := by
  obtain ⟨a1, c1, a2, c2, a3, c3, a4, c4, hv, o1, o2, o3, o4, ap⟩ := h
  obtain ⟨u1, u2, u3, u4⟩ := hu _ _ _ _ _ _ hv
  have ne : ∀ {s : Value}, Under s M → s.ownBlock = none ∨ s.ownBlock ≠ row := by
    intro s hs
    cases hc : s.ownBlock with
    | none => exact .inl rfl
    | some g =>
      refine .inr (fun e => ?_)
      have h1 := hs g hc
      have h2 := hr g e.symm
      omega
  exact ⟨a1, c1, a2, c2, a3, c3, a4, c4, hv, o1.kept hg (ne u1), o2.kept hg (ne u2), o3.kept hg (ne u3), o4.kept hg (ne u4), ap⟩

theorem MsgIs.below {w w' : World} {N : Nat} {v : Value} {m : Msg} (h : MsgIs w N v m) (hb : Below w.heap.size w w') : MsgIs w' N v m :=
  h.grown h.under (grown_below (row := none) hb) (fun g hg => by cases hg)

theorem apart_new {w : World} {M : Nat} {e : TypeId} {size : Nat} {u v : Value} {n : Nat} {xs : List Value} (hu : Under u M) (hv : w.ownsRow M e size v n xs) : Apart u v := by
  intro g h1 h2
  have := hu g h1
  have := (hv.lt g h2).1
  omega

theorem MsgIs.put0 {w : World} {N M : Nat} {i f s1 s2 s3 s4 : Value} {m : Msg} {a : Option Addr} {l : List Rc} {c : Nat} (h : MsgIs w N (.agg #[i, f, s1, s2, s3, s4]) m) (hu : MsgUnder (.agg #[i, f, s1, s2, s3, s4]) M) (hN : N ≤ M)
    (ho : w.ownsRow M 42 5 (.slice a l.length c) l.length (rcells l)) : MsgIs w N (.agg #[i, f, s1, .slice a l.length c, s3, s4]) (setPart m 0 l) := by
  obtain ⟨a1, c1, a2, c2, a3, c3, a4, c4, hv, o1, o2, o3, o4, p12, p13, p14, p23, p24, p34⟩ := h
  obtain ⟨u1, u2, u3, u4⟩ := hu _ _ _ _ _ _ rfl
  simp only [Value.agg.injEq, Array.mk.injEq, List.cons.injEq, and_true] at hv
  obtain ⟨rfl, rfl, rfl, rfl, rfl, rfl⟩ := hv
  exact ⟨a1, c1, a, c, a3, c3, a4, c4, rfl, o1, owns_mono ho hN, o3, o4, apart_new u1 ho, p13, p14, (apart_new u3 ho).symm, (apart_new u4 ho).symm, p34⟩
theorem MsgIs.put1 {w : World} {N M : Nat} {i f s1 s2 s3 s4 : Value} {m : Msg} {a : Option Addr} {l : List Rc} {c : Nat} (h : MsgIs w N (.agg #[i, f, s1, s2, s3, s4]) m) (hu : MsgUnder (.agg #[i, f, s1, s2, s3, s4]) M) (hN : N ≤ M)
    (ho : w.ownsRow M 42 5 (.slice a l.length c) l.length (rcells l)) : MsgIs w N (.agg #[i, f, s1, s2, .slice a l.length c, s4]) (setPart m 1 l) := by
  obtain ⟨a1, c1, a2, c2, a3, c3, a4, c4, hv, o1, o2, o3, o4, p12, p13, p14, p23, p24, p34⟩ := h
  obtain ⟨u1, u2, u3, u4⟩ := hu _ _ _ _ _ _ rfl
  simp only [Value.agg.injEq, Array.mk.injEq, List.cons.injEq, and_true] at hv
  obtain ⟨rfl, rfl, rfl, rfl, rfl, rfl⟩ := hv
  exact ⟨a1, c1, a2, c2, a, c, a4, c4, rfl, o1, o2, owns_mono ho hN, o4, p12, apart_new u1 ho, p14, apart_new u2 ho, p24, (apart_new u4 ho).symm⟩
theorem MsgIs.put2 {w : World} {N M : Nat} {i f s1 s2 s3 s4 : Value} {m : Msg} {a : Option Addr} {l : List Rc} {c : Nat} (h : MsgIs w N (.agg #[i, f, s1, s2, s3, s4]) m) (hu : MsgUnder (.agg #[i, f, s1, s2, s3, s4]) M) (hN : N ≤ M)
    (ho : w.ownsRow M 42 5 (.slice a l.length c) l.length (rcells l)) : MsgIs w N (.agg #[i, f, s1, s2, s3, .slice a l.length c]) (setPart m 2 l) := by
  obtain ⟨a1, c1, a2, c2, a3, c3, a4, c4, hv, o1, o2, o3, o4, p12, p13, p14, p23, p24, p34⟩ := h
  obtain ⟨u1, u2, u3, u4⟩ := hu _ _ _ _ _ _ rfl
  simp only [Value.agg.injEq, Array.mk.injEq, List.cons.injEq, and_true] at hv
  obtain ⟨rfl, rfl, rfl, rfl, rfl, rfl⟩ := hv
  exact ⟨a1, c1, a2, c2, a3, c3, a, c, rfl, o1, o2, o3, owns_mono ho hN, p12, p13, apart_new u1 ho, p23, apart_new u2 ho, apart_new u3 ho⟩

/-- With the questions alone. -/
theorem msgQ_is {w : World} {N : Nat} (b : ByteArray) (q : List Qs) {a : Option Addr} {c : Nat} (h : w.ownsRow N 60 3 (.slice a q.length c) q.length (qcells q)) :
    MsgIs w N (.agg #[.int .i64 (num b 0 2), .int .i64 (num b 2 2), .slice a q.length c, .slice none 0 0, .slice none 0 0, .slice none 0 0]) (msgQ b q) :=
  ⟨a, c, none, 0, none, 0, none, 0, rfl, h, World.ownsRow_nil _ _ _ _, World.ownsRow_nil _ _ _ _, World.ownsRow_nil _ _ _ _,
    fun g _ h2 => by simp [Value.ownBlock] at h2, fun g _ h2 => by simp [Value.ownBlock] at h2, fun g _ h2 => by simp [Value.ownBlock] at h2, fun g _ h2 => by simp [Value.ownBlock] at h2, fun g _ h2 => by simp [Value.ownBlock] at h2, fun g _ h2 => by simp [Value.ownBlock] at h2⟩

end Go.Proofs.YtdhobdmhnocbgaaGreat

namespace Go.Proofs.YtdhobdmhnocbgaaGreat
open Go.RowKit Zr

/-- What stands around the message while it is read: the result's box, the message's box, all that was there before. -/
structure Around (w : World) (N : Nat) (wr : World) (cs : Array Value) : Prop where
  res : wr.heap[N]? = some msg0
  box : wr.heap[N + 1]? = some (.cells cs 32 (0, 0))
  below : Below N w wr

theorem Around.step {w wr wr' : World} {N : Nat} {cs : Array Value} (h : Around w N wr cs) (hb : Below wr.heap.size wr wr') : Around w N wr' cs :=
  ⟨(hb.block N (blk_lt h.res)).trans h.res, (hb.block (N + 1) (blk_lt h.box)).trans h.box, h.below.trans (hb.mono (by have := blk_lt h.box; omega))⟩
theorem Around.alloc {w wr : World} {N : Nat} {cs : Array Value} (h : Around w N wr cs) (o : Obj) : Around w N (wr.alloc o) cs :=
  h.step ((Below.refl _ _).alloc (Nat.le_refl _) _)
theorem Around.grown {w wr wr' : World} {N : Nat} {cs : Array Value} {row : Option Nat} (h : Around w N wr cs) (hg : wr.grownBy wr' row) (hr : ∀ k, row = some k → N + 2 ≤ k) : Around w N wr' cs := by
  have h1 := blk_lt h.box
  refine ⟨(hg.block N (blk_lt h.res) (fun e => by have := hr N e.symm; omega)).trans h.res, (hg.block (N + 1) h1 (fun e => by have := hr _ e.symm; omega)).trans h.box, ?_⟩
  exact Below.grown h.below hg (by omega) (fun k hk => by have := hr k hk; omega)
theorem Around.set {w wr : World} {N : Nat} {cs : Array Value} (h : Around w N wr cs) (j : Nat) (v : Value) : Around w N (wr.setCell ⟨N + 1, j, none⟩ v) (cs.setIfInBounds j v) :=
  ⟨(blk_set_other (by omega) _ _).trans h.res, blk_set h.box _ _, h.below.setCell (show N ≤ N + 1 by omega) _⟩

theorem owns_below {w w' : World} {N : Nat} {e : TypeId} {size : Nat} {v : Value} {n : Nat} {xs : List Value} (h : w.ownsRow N e size v n xs) (hb : Below w.heap.size w w') : w'.ownsRow N e size v n xs := by
  refine h.kept (grown_below (row := none) hb) ?_
  cases v.ownBlock with
  | none => exact .inl rfl
  | some g => exact .inr (by simp)

set_option maxRecDepth 100000 in
set_option maxHeartbeats 4000000 in
theorem refParse_any (b : ByteArray) (w : World) (hm : b.size ≤ maxLen) :
    Calls Tryz.prog 22 #[.string b] w fun e w' => Parsed w.heap.size w (parseP b) e w' := by
  unfold maxLen at hm
  generalize hN : w.heap.size = N
  by_cases c : 65535 < b.size
  · have HP : Hid (parseP b = .error 1) := by show _ = _; unfold parseP; rw [if_pos c]
    go_enter Tryz.func22, Tryz.ntmps22
    go_wp2_with fail
    have hA : (w.alloc msg0).heap[N]? = some msg0 := by rw [← hN]; exact heap_alloc_new _ _
    unfold msg0 at hA
    obtain ⟨⟨g0, g1, g2, g3, g4, g5⟩, _⟩ := cells6 hA
    refine bodyPost_ret (v := .tuple #[noVal, .int .i64 1]) (by simp [results, Tryz.results22, go_sem, noVal, g0, g1, g2, g3, g4, g5]) rfl ?_
    rw [unhide HP]
    exact parsed_no 1 ((Below.refl _ _).alloc (by omega) _)
  have hb : b.size ≤ 65535 := by omega
  by_cases c12 : b.size < 12
  · have HP : Hid (parseP b = .error 2) := by show _ = _; unfold parseP; rw [if_neg c, if_pos c12]
    have hA := (two_new w msg0 msg0).1
    have hG : Below N w ((w.alloc msg0).alloc msg0) := ((Below.refl _ _).alloc (by omega) _).alloc (by simp; omega) _
    rw [hN] at hA
    unfold msg0 at hA hG
    go_enter Tryz.func22, Tryz.ntmps22
    go_wp2_with fail
    obtain ⟨⟨g0, g1, g2, g3, g4, g5⟩, _⟩ := cells6 hA
    refine bodyPost_ret (v := .tuple #[noVal, .int .i64 2]) (by simp [results, Tryz.results22, go_sem, noVal, g0, g1, g2, g3, g4, g5]) rfl ?_
    rw [unhide HP]
    exact parsed_no 2 hG
  have h12 : 12 ≤ b.size := by omega
  have hA := (two_new w msg0 msg0).1
  have hB := (two_new w msg0 msg0).2
  have hG : Below N w ((w.alloc msg0).alloc msg0) := ((Below.refl _ _).alloc (by omega) _).alloc (by simp; omega) _
  rw [hN] at hA hB
  have HAr : Around w N ((w.alloc msg0).alloc msg0) #[.int .i64 0, .int .i64 0, .slice none 0 0, .slice none 0 0, .slice none 0 0, .slice none 0 0] := ⟨hA, hB, hG⟩
  unfold msg0 at HAr
  clear hA hB hG c c12
  go_enter Tryz.func22, Tryz.ntmps22
  go_wp2_with fail
  generalize (w.alloc (.cells #[.int .i64 0, .int .i64 0, .slice none 0 0, .slice none 0 0, .slice none 0 0, .slice none 0 0] 32 (0, 0))).alloc (.cells #[.int .i64 0, .int .i64 0, .slice none 0 0, .slice none 0 0, .slice none 0 0, .slice none 0 0] 32 (0, 0)) = w0 at *
  refine (head_yes b 0 _ hb (by omega) (by omega) h12).mono ?_
  rw [show 2 * (0 : Int).toNat = 0 from rfl]
  rintro e w1 ⟨rfl, rfl⟩
  obtain ⟨⟨x0, x1, x2, x3, x4, x5⟩, y0, y1, y2, y3, y4, y5⟩ := cells6 HAr.box
  have hAr1 := HAr.set 0 (.int .i64 (num b 0 2))
  have hl1 := blk_lt HAr.box
  clear HAr
  go_wp2_with fail
  generalize w1.setCell ⟨N + 1, 0, none⟩ (.int .i64 (num b 0 2)) = w2 at *
  clear x0 x1 x2 x3 x4 x5 y0 y1 y2 y3 y4 y5 hl1 w1
  refine (head_yes b 1 _ hb (by omega) (by omega) h12).mono ?_
  rw [show 2 * (1 : Int).toNat = 2 from rfl]
  rintro e w1 ⟨rfl, rfl⟩
  have hAr1' : Around w N w1 #[.int .i64 (num b 0 2), .int .i64 0, .slice none 0 0, .slice none 0 0, .slice none 0 0, .slice none 0 0] := hAr1
  obtain ⟨⟨x0, x1, x2, x3, x4, x5⟩, y0, y1, y2, y3, y4, y5⟩ := cells6 hAr1'.box
  have hAr2 := hAr1'.set 1 (.int .i64 (num b 2 2))
  have hl1 := blk_lt hAr1'.box
  clear hAr1 hAr1'
  go_wp2_with fail
  generalize w1.setCell ⟨N + 1, 1, none⟩ (.int .i64 (num b 2 2)) = w2 at *
  clear x0 x1 x2 x3 x4 x5 y0 y1 y2 y3 y4 y5 hl1 w1
  refine (head_yes b 2 _ hb (by omega) (by omega) h12).mono ?_
  rw [show 2 * (2 : Int).toNat = 4 from rfl]
  rintro e w1 ⟨rfl, rfl⟩
  have hAr3 : Around w N w1 #[.int .i64 (num b 0 2), .int .i64 (num b 2 2), .slice none 0 0, .slice none 0 0, .slice none 0 0, .slice none 0 0] := hAr2
  have HAr := hide hAr3
  clear hAr2 hAr3
  go_wp2_with fail
  have hn1 := num_lt2 b 4
  generalize hn : num b 4 2 = n1 at *
  have HN := hide hn
  clear hn
  obtain ⟨i0, hi, hz0, hz1, hz2⟩ := info_parts Tryz.info60
  have Hi := hide hi
  have Hz0 := hide hz0
  have Hz1 := hide hz1
  have Hz2 := hide hz2
  clear hi hz0 hz1 hz2
  go_loopg [5, 8] (n1 + 1) (fun g at' k w' => ∃ (j : Nat) (l : List Qs) (p : Nat) (a : Option Addr) (c : Nat), k = .int .i64 j ∧ at' = .int .i64 p ∧ j ≤ n1 ∧ p ≤ b.size ∧ g = n1 + 1 - j ∧ l.length = j ∧ Hid (qsTo b 12 j = .ok (l, p)) ∧
    Hid (Around w N w' #[.int .i64 (num b 0 2), .int .i64 (num b 2 2), .slice a j c, .slice none 0 0, .slice none 0 0, .slice none 0 0]) ∧ Hid (w'.ownsRow (N + 2) 60 3 (.slice a j c) j (qcells l)))
  case atStart => exact ⟨0, [], 12, none, 0, rfl, rfl, Nat.zero_le _, h12, by omega, rfl, rfl, HAr, World.ownsRow_nil _ _ _ _⟩
  case round =>
    obtain ⟨j, l, p, a, c, rfl, rfl, hj, hp, hg, hlen, hqs, hAr, hown⟩ := hrel
    by_cases cj : j < n1
    · cases hq : questionAt b p with
      | error x =>
        have hnx : qsTo b 12 (j + 1) = .error x := by rw [qsTo, unhide hqs]; simp only; rw [hq]
        have HP := hide (parse_err_q b hb h12 (j + 1) (by rw [unhide HN]; omega) x hnx)
        have Hq := hide hq
        clear hnx hq
        go_wp2_with fail
        have hc := refQuestion_any b p wr hb (by omega) (by omega)
        rw [Int.toNat_natCast, unhide Hq] at hc
        refine hc.mono ?_
        clear hc
        rintro e w1 ⟨⟨hx0, rfl⟩, hb1⟩
        have hx1 : (x != 0) = true := by rw [bne_iff_ne]; exact hx0
        have hAr1 := (unhide hAr).step hb1
        have hres : w1.heap[N]? = some (.cells #[.int .i64 0, .int .i64 0, .slice none 0 0, .slice none 0 0, .slice none 0 0, .slice none 0 0] 32 (0, 0)) := hAr1.res
        obtain ⟨⟨x0, x1, x2, x3, x4, x5⟩, y0, y1, y2, y3, y4, y5⟩ := cells6 hres
        have hl1 := blk_lt hres
        have HAr1 := hide hAr1
        have Hres := hide hres
        clear hAr1 hx0 hb1 hAr hown hres
        go_wp2_with fail
        have hf := box_filled (unhide Hres) (.int .i64 0) (.int .i64 0) (.slice none 0 0) (.slice none 0 0) (.slice none 0 0) (.slice none 0 0) (.cells #[.string ⟨#[]⟩, .int .i64 0, .int .i64 0] 60)
        obtain ⟨⟨g0, g1, g2, g3, g4, g5⟩, _⟩ := cells6 hf
        refine bodyPost_ret (v := .tuple #[noVal, .int .i64 x]) (by simp [results, Tryz.results22, go_sem, noVal, g0, g1, g2, g3, g4, g5]) rfl ?_
        rw [unhide HP]
        exact parsed_no x (below_filled (unhide HAr1).below (Nat.le_refl _) (by omega) _ _ _ _ _ _ _)
      | ok z =>
        obtain ⟨q, p'⟩ := z
        have hqb := questionAt_bounds b p q p' hq
        have hnx : qsTo b 12 (j + 1) = .ok (l ++ [q], p') := by rw [qsTo, unhide hqs]; simp only; rw [hq]
        have HNX := hide hnx
        have Hq := hide hq
        clear hnx hq
        go_wp2_with fail
        have hc := refQuestion_any b p wr hb (by omega) (by omega)
        rw [Int.toNat_natCast, unhide Hq] at hc
        refine hc.mono ?_
        clear hc
        rintro e w1 ⟨hq1, hb1⟩
        have hq2 : e = _ := hq1
        subst hq2
        clear hq1
        have hAr1 := (unhide hAr).step hb1
        obtain ⟨⟨x0, x1, x2, x3, x4, x5⟩, y0, y1, y2, y3, y4, y5⟩ := cells6 hAr1.box
        have hl1 := blk_lt hAr1.box
        have hO1 := hide (owns_below (unhide hown) hb1)
        have HAr1 := hide hAr1
        clear hAr1 hb1 hAr hown
        go_wp2_with (at_builtin; refine wpList_append_lies _ rfl _ _ 29 rfl (N + 2) 60 i0 (.agg #[.string ⟨#[]⟩, .int .i64 0, .int .i64 0]) 3 32 Tryz.underlying29 (unhide Hi) (unhide Hz0) (unhide Hz1) (unhide Hz2) rfl (by decide) (.slice a j c) j (qcells l) (by rfl) (((unhide hO1).alloc _).alloc _) ⟨w1.heap.size + 1, 0, none⟩ 1 1 [.string q.name, .int .i64 q.ty, .int .i64 q.cl] (by rfl) rfl (cell_three_new _ _ _ _ _ _ (by simp)) (fun x hx => by simp at hx; rcases hx with rfl | rfl | rfl <;> rfl) (by decide) (by unfold maxLen; omega) (by omega) (by simp; omega) (w1.heap.size + 2) (by simp) ?_; intro g cap w3 hown3 hgrow3 hat3 hlt3; have hA3 := (((unhide HAr1).alloc _).alloc _).grown hgrow3 (fun k hk => ((unhide hO1).lt k hk).1); obtain ⟨⟨q0, q1, q2, q3, q4, q5⟩, z0, z1, z2, z3, z4, z5⟩ := cells6 hA3.box; have hl3 := blk_lt hA3.box)
        go_roundg (n1 + 1 - (j + 1))
        case measure => omega
        case rel =>
          refine ⟨j + 1, l ++ [q], p', some ⟨g, 0, none⟩, cap, by go_num, rfl, by omega, hqb.2.1, rfl, by simp [hlen], HNX, ?_, ?_⟩
          · exact hA3.set 2 _
          · show World.ownsRow _ _ _ _ _ _ _
            rw [qcells_append]
            exact owns_later hown3 (grown_set _ _ _ _) (by omega)
    · have hjn : j = n1 := by omega
      subst hjn
      rw [← unhide HN] at hqs
      have hM0 : MsgIs wr (N + 2) (.agg #[.int .i64 (num b 0 2), .int .i64 (num b 2 2), .slice a j c, .slice none 0 0, .slice none 0 0, .slice none 0 0]) (msgQ b l) := by
        have h := unhide hown
        subst hlen
        exact msgQ_is b l h
      have HM0 := hide hM0
      clear hM0 hown Hi Hz0 Hz1 Hz2 HAr
      obtain ⟨i1, hi, hz0, hz1, hz2⟩ := info_parts Tryz.info42
      have Hi := hide hi
      have Hz0 := hide hz0
      have Hz1 := hide hz1
      have Hz2 := hide hz2
      clear hi hz0 hz1 hz2
      go_wp2_with fail
      go_loopg [5, 12] 4 (fun g at' k w' => ∃ (i : Nat) (m : Msg) (q : Nat) (s1 s2 s3 s4 : Value), k = .int .i64 i ∧ at' = .int .i64 q ∧ i ≤ 3 ∧ q ≤ b.size ∧ g = 4 - i ∧ Hid (partsTo b (msgQ b l) p i = .ok (m, q)) ∧
        Hid (Around w N w' #[.int .i64 m.id, .int .i64 m.flags, s1, s2, s3, s4]) ∧ Hid (MsgIs w' (N + 2) (.agg #[.int .i64 m.id, .int .i64 m.flags, s1, s2, s3, s4]) m))
      case atStart => exact ⟨0, msgQ b l, p, _, _, _, _, rfl, rfl, by omega, hp, rfl, rfl, hAr, HM0⟩
      case round =>
        obtain ⟨i, m, q, s1, s2, s3, s4, rfl, rfl, hi3, hq, hgk, hpt, hAr2, hM2⟩ := hrel
        by_cases ci : i < 3
        · have hnn := num_lt2 b (2 * (3 + i))
          generalize hnc : num b (2 * (3 + i)) 2 = nc at hnn
          have HNC := hide hnc
          clear hnc
          go_wp2_with fail
          have hc := head_yes b (3 + i) wr hb (by omega) (by omega) h12
          rw [show 2 * (3 + (i : Int)).toNat = 2 * (3 + i) from by omega, unhide HNC] at hc
          refine hc.mono ?_
          clear hc
          rintro e w1 ⟨rfl, rfl⟩
          obtain ⟨M, hM⟩ : ∃ M, M = w1.heap.size := ⟨_, rfl⟩
          have hMN : N + 2 ≤ M := by have := blk_lt (unhide hAr2).box; omega
          have hU : MsgUnder (.agg #[.int .i64 m.id, .int .i64 m.flags, s1, s2, s3, s4]) M := by rw [hM]; exact (unhide hM2).under
          have HU := hide hU
          have HMle : Hid (M ≤ w1.heap.size) := by show _ ≤ _; omega
          clear hM hU
          go_wp2_with fail
          go_loopg [5, 13, 14] (nc + 1) (fun g at' lv k w' => ∃ (j : Nat) (r : List Rc) (t : Nat) (a : Option Addr) (c : Nat), k = .int .i64 j ∧ at' = .int .i64 t ∧ lv = .slice a j c ∧ j ≤ nc ∧ t ≤ b.size ∧ g = nc + 1 - j ∧ r.length = j ∧ Hid (rcTo b i q j = .ok (r, t)) ∧
            Hid (Around w N w' #[.int .i64 m.id, .int .i64 m.flags, s1, s2, s3, s4]) ∧ Hid (MsgIs w' (N + 2) (.agg #[.int .i64 m.id, .int .i64 m.flags, s1, s2, s3, s4]) m) ∧ Hid (M ≤ w'.heap.size) ∧ Hid (w'.ownsRow M 42 5 (.slice a j c) j (rcells r)))
          case atStart => exact ⟨0, [], q, none, 0, rfl, rfl, rfl, Nat.zero_le _, hq, by omega, rfl, rfl, hAr2, hM2, HMle, World.ownsRow_nil _ _ _ _⟩
          case round =>
            obtain ⟨j', r, t, a', c', rfl, rfl, rfl, hj', ht, hg', hlen', hrc, hAr3, hM3, hMle, hown3⟩ := hrel
            by_cases cj : j' < nc
            · cases hx : recordAt b t with
              | error x =>
                have hnx : rcTo b i q (j' + 1) = .error x := by rw [rcTo, unhide hrc]; simp only; rw [hx]
                have HP := hide (parse_err_p b hb h12 l p (unhide hqs) i ci m q (unhide hpt) (j' + 1) (by rw [unhide HNC]; omega) x hnx)
                have Hx := hide hx
                clear hnx hx
                go_wp2_with fail
                have hc := refRecord_any b t wr hb (by omega) (by omega)
                rw [Int.toNat_natCast, unhide Hx] at hc
                refine hc.mono ?_
                clear hc
                rintro e w1 ⟨⟨hx0, rfl⟩, hb1⟩
                have hx1 : (x != 0) = true := by rw [bne_iff_ne]; exact hx0
                have hAr1 := (unhide hAr3).step hb1
                have hres : w1.heap[N]? = some (.cells #[.int .i64 0, .int .i64 0, .slice none 0 0, .slice none 0 0, .slice none 0 0, .slice none 0 0] 32 (0, 0)) := hAr1.res
                obtain ⟨⟨x0, x1, x2, x3, x4, x5⟩, y0, y1, y2, y3, y4, y5⟩ := cells6 hres
                have hl1 := blk_lt hres
                have HAr1 := hide hAr1
                have Hres := hide hres
                clear hAr1 hx0 hb1 hres
                go_wp2_with fail
                have hf := box_filled (unhide Hres) (.int .i64 0) (.int .i64 0) (.slice none 0 0) (.slice none 0 0) (.slice none 0 0) (.slice none 0 0) (.cells #[.string ⟨#[]⟩, .int .i64 0, .int .i64 0, .int .i64 0, .string ⟨#[]⟩] 42)
                obtain ⟨⟨g0, g1, g2, g3, g4, g5⟩, _⟩ := cells6 hf
                refine bodyPost_ret (v := .tuple #[noVal, .int .i64 x]) (by simp [results, Tryz.results22, go_sem, noVal, g0, g1, g2, g3, g4, g5]) rfl ?_
                rw [unhide HP]
                exact parsed_no x (below_filled (unhide HAr1).below (Nat.le_refl _) (by omega) _ _ _ _ _ _ _)
              | ok z =>
                obtain ⟨x, t'⟩ := z
                have hqb := recordAt_bounds b t x t' hx
                have Hx := hide hx
                clear hx
                go_wp2_with fail
                have hc := refRecord_any b t wr hb (by omega) (by omega)
                rw [Int.toNat_natCast, unhide Hx] at hc
                refine hc.mono ?_
                clear hc
                rintro e w1 ⟨hq1, hb1⟩
                have hq2 : e = _ := hq1
                subst hq2
                clear hq1
                have hAr1 := ((unhide hAr3).step hb1).alloc (.cells #[.string x.name, .int .i64 x.ty, .int .i64 x.cl, .int .i64 x.ttl, .string x.data] 42)
                have hMs := ((unhide hM3).below hb1).below ((Below.refl w1.heap.size w1).alloc (Nat.le_refl _) (.cells #[.string x.name, .int .i64 x.ty, .int .i64 x.cl, .int .i64 x.ttl, .string x.data] 42))
                have hO1 := (owns_below (unhide hown3) hb1).alloc (.cells #[.string x.name, .int .i64 x.ty, .int .i64 x.cl, .int .i64 x.ttl, .string x.data] 42)
                have hM1 : M ≤ w1.heap.size := by have := hb1.size; have := unhide hMle; omega
                have hbx := heap_alloc_new w1 (.cells #[.string x.name, .int .i64 x.ty, .int .i64 x.cl, .int .i64 x.ttl, .string x.data] 42)
                have HAr1 := hide hAr1
                have HMs := hide hMs
                have HO1 := hide hO1
                have Hbx := hide hbx
                clear hAr1 hMs hO1 hbx hb1 hAr3 hM3 hMle hown3
                go_wp2_with fail
                have hc := misplaced_any r x i a' c' M (w1.alloc (.cells #[.string x.name, .int .i64 x.ty, .int .i64 x.cl, .int .i64 x.ttl, .string x.data] 42)) (by rw [hlen']; exact unhide HO1) (by omega)
                rw [hlen'] at hc
                cases hmb : misB r x i with
                | true =>
                  rw [hmb] at hc
                  have hnx : rcTo b i q (j' + 1) = .error 5 := by rw [rcTo, unhide hrc]; simp only; rw [unhide Hx]; simp only; rw [if_pos hmb]
                  have HP := hide (parse_err_p b hb h12 l p (unhide hqs) i ci m q (unhide hpt) (j' + 1) (by rw [unhide HNC]; omega) 5 hnx)
                  refine hc.mono ?_
                  clear hc hnx hmb
                  rintro e w2 ⟨rfl, hb2⟩
                  have hAr4 := (unhide HAr1).step hb2
                  have hres : w2.heap[N]? = some (.cells #[.int .i64 0, .int .i64 0, .slice none 0 0, .slice none 0 0, .slice none 0 0, .slice none 0 0] 32 (0, 0)) := hAr4.res
                  obtain ⟨⟨x0, x1, x2, x3, x4, x5⟩, y0, y1, y2, y3, y4, y5⟩ := cells6 hres
                  have hl1 := blk_lt hres
                  have HAr4 := hide hAr4
                  have Hres := hide hres
                  clear hAr4 hb2 hres
                  go_wp2_with fail
                  have hf := store6 (unhide Hres) (.int .i64 0) (.int .i64 0) (.slice none 0 0) (.slice none 0 0) (.slice none 0 0) (.slice none 0 0)
                  obtain ⟨⟨g0, g1, g2, g3, g4, g5⟩, _⟩ := cells6 hf
                  refine bodyPost_ret (v := .tuple #[noVal, .int .i64 5]) (by simp [results, Tryz.results22, go_sem, noVal, g0, g1, g2, g3, g4, g5]) rfl ?_
                  rw [unhide HP]
                  exact parsed_no 5 (below_set6 (unhide HAr4).below (Nat.le_refl _) _ _ _ _ _ _)
                | false =>
                  rw [hmb] at hc
                  have hnx : rcTo b i q (j' + 1) = .ok (r ++ [x], t') := by rw [rcTo, unhide hrc]; simp only; rw [unhide Hx]; simp only; rw [if_neg (by rw [hmb]; decide)]
                  have HNX := hide hnx
                  refine hc.mono ?_
                  clear hc hnx hmb
                  rintro e w2 ⟨rfl, hb2⟩
                  have hAr4 := (unhide HAr1).step hb2
                  have hMs2 := (unhide HMs).below hb2
                  have hO2 := owns_below (unhide HO1) hb2
                  have hbx2 := (hb2.block w1.heap.size (by simp)).trans (unhide Hbx)
                  obtain ⟨⟨x0, x1, x2, x3, x4⟩, y0, y1, y2, y3, y4⟩ := cells5 hbx2
                  have hl2 := blk_lt hbx2
                  have HAr4 := hide hAr4
                  have HMs2 := hide hMs2
                  have HO2 := hide hO2
                  have hM4 : M ≤ w2.heap.size := by omega
                  clear hAr4 hMs2 hO2 hbx2 hb2 HAr1 HMs HO1 Hbx hM1
                  go_wp2_with (at_builtin; refine wpList_append_lies _ rfl _ _ 30 rfl M 42 i1 (.agg #[.string ⟨#[]⟩, .int .i64 0, .int .i64 0, .int .i64 0, .string ⟨#[]⟩]) 5 56 Tryz.underlying30 (unhide Hi) (unhide Hz0) (unhide Hz1) (unhide Hz2) rfl (by decide) (.slice a' j' c') j' (rcells r) (by rfl) ((unhide HO2).alloc _) ⟨w2.heap.size, 0, none⟩ 1 1 [.string x.name, .int .i64 x.ty, .int .i64 x.cl, .int .i64 x.ttl, .string x.data] (by rfl) rfl (cell_five_new _ _ _ _ _ _ _ _ rfl) (fun x hx => by simp at hx; rcases hx with rfl | rfl | rfl | rfl | rfl <;> rfl) (by decide) (by unfold maxLen; omega) (by omega) (by simp; omega) (w2.heap.size + 1) (by simp) ?_; intro g cap w3 hown5 hgrow5 hat5 hlt5)
                  go_roundg (nc + 1 - (j' + 1))
                  case measure => omega
                  case rel =>
                    have hrow : ∀ k, (Value.slice a' j' c').ownBlock = some k → M ≤ k := fun k hk => ((unhide HO2).lt k hk).1
                    refine ⟨j' + 1, r ++ [x], t', some ⟨g, 0, none⟩, cap, by go_num, rfl, rfl, by omega, hqb.2.1, rfl, by simp [hlen'], HNX, ?_, ?_, ?_, ?_⟩
                    · exact ((unhide HAr4).alloc _).grown hgrow5 (fun k hk => by have := hrow k hk; omega)
                    · exact (((unhide HMs2).below ((Below.refl w2.heap.size w2).alloc (Nat.le_refl _) _)).grown (unhide HU) hgrow5 hrow)
                    · show _ ≤ _
                      have := hgrow5.size
                      simp at this
                      omega
                    · show World.ownsRow _ _ _ _ _ _ _
                      rw [rcells_append]
                      exact hown5
            · have hjc : j' = nc := by omega
              subst hjc
              rw [← unhide HNC] at hrc
              have hnxt := hide (partsTo_next b (msgQ b l) p i m q (unhide hpt) r t (unhide hrc))
              obtain ⟨⟨x0, x1, x2, x3, x4, x5⟩, y0, y1, y2, y3, y4, y5⟩ := cells6 (unhide hAr3).box
              have hl1 := blk_lt (unhide hAr3).box
              have hi012 : i = 0 ∨ i = 1 ∨ i = 2 := by omega
              subst hlen'
              rcases hi012 with rfl | rfl | rfl
              · go_wp2_with fail
                go_roundg 3
                case measure => omega
                case rel => exact ⟨1, setPart m 0 r, t, s1, .slice a' r.length c', s3, s4, by go_num, rfl, by omega, ht, rfl, hnxt, (unhide hAr3).set 3 _, ((unhide hM3).put0 (unhide HU) hMN (unhide hown3)).set (N + 1) 3 _ (by omega)⟩
              · go_wp2_with fail
                go_roundg 2
                case measure => omega
                case rel => exact ⟨2, setPart m 1 r, t, s1, s2, .slice a' r.length c', s4, by go_num, rfl, by omega, ht, rfl, hnxt, (unhide hAr3).set 4 _, ((unhide hM3).put1 (unhide HU) hMN (unhide hown3)).set (N + 1) 4 _ (by omega)⟩
              · go_wp2_with fail
                go_roundg 1
                case measure => omega
                case rel => exact ⟨3, setPart m 2 r, t, s1, s2, s3, .slice a' r.length c', by go_num, rfl, by omega, ht, rfl, hnxt, (unhide hAr3).set 5 _, ((unhide hM3).put2 (unhide HU) hMN (unhide hown3)).set (N + 1) 5 _ (by omega)⟩
        · have hi3' : i = 3 := by omega
          subst hi3'
          have hE := parse_end b hb h12 l p (unhide hqs) m q (unhide hpt)
          obtain ⟨a1, c1, a2, c2, a3, c3, a4, c4, hv, _⟩ := unhide hM2
          simp only [Value.agg.injEq, Array.mk.injEq, List.cons.injEq, and_true, true_and] at hv
          obtain ⟨rfl, rfl, rfl, rfl⟩ := hv
          have hres : wr.heap[N]? = some (.cells #[.int .i64 0, .int .i64 0, .slice none 0 0, .slice none 0 0, .slice none 0 0, .slice none 0 0] 32 (0, 0)) := (unhide hAr2).res
          have Hres := hide hres
          obtain ⟨⟨x0, x1, x2, x3, x4, x5⟩, y0, y1, y2, y3, y4, y5⟩ := cells6 (unhide hAr2).box
          obtain ⟨⟨u0, u1, u2, u3, u4, u5⟩, v0, v1, v2, v3, v4, v5⟩ := cells6 hres
          have hl1 := blk_lt hres
          clear hres
          by_cases ce : q = b.size
          · rw [if_neg (by simp [ce])] at hE
            have HE := hide hE
            have hpn : ((q : Int) != (b.size : Int)) = false := by simp only [bne_eq_false_iff_eq]; omega
            clear hE ce
            go_wp2_with fail
            have hf := store6 (unhide Hres) (.int .i64 m.id) (.int .i64 m.flags) (.slice a1 m.q.length c1) (.slice a2 m.a.length c2) (.slice a3 m.u.length c3) (.slice a4 m.x.length c4)
            obtain ⟨⟨g0, g1, g2, g3, g4, g5⟩, _⟩ := cells6 hf
            refine bodyPost_ret (v := .tuple #[.agg #[.int .i64 m.id, .int .i64 m.flags, .slice a1 m.q.length c1, .slice a2 m.a.length c2, .slice a3 m.u.length c3, .slice a4 m.x.length c4], .int .i64 0]) (by simp [results, Tryz.results22, go_sem, g0, g1, g2, g3, g4, g5]) rfl ?_
            rw [unhide HE]
            refine ⟨_, rfl, ?_, below_set6 (unhide hAr2).below (Nat.le_refl _) _ _ _ _ _ _⟩
            exact (((((((unhide hM2).set N 0 _ (by omega)).set N 1 _ (by omega)).set N 2 _ (by omega)).set N 3 _ (by omega)).set N 4 _ (by omega)).set N 5 _ (by omega)).mono (by omega)
          · rw [if_pos ce] at hE
            have HE := hide hE
            have hpn : ((q : Int) != (b.size : Int)) = true := by rw [bne_iff_ne]; omega
            clear hE ce
            go_wp2_with fail
            have hf := store6 (unhide Hres) (.int .i64 0) (.int .i64 0) (.slice none 0 0) (.slice none 0 0) (.slice none 0 0) (.slice none 0 0)
            obtain ⟨⟨g0, g1, g2, g3, g4, g5⟩, _⟩ := cells6 hf
            refine bodyPost_ret (v := .tuple #[noVal, .int .i64 6]) (by simp [results, Tryz.results22, go_sem, noVal, g0, g1, g2, g3, g4, g5]) rfl ?_
            rw [unhide HE]
            exact parsed_no 6 (below_set6 (unhide hAr2).below (Nat.le_refl _) _ _ _ _ _ _)

end Go.Proofs.YtdhobdmhnocbgaaGreat
