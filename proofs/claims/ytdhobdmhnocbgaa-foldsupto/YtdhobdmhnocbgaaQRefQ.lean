/-
  The plain side of the document's Parse: part by part.
-/
import Derived.Test.YtdhobdmhnocbgaaQParseX
namespace Go.Proofs.Ytdhobdmhnocbgaa.Zr

def setPart (m : Msg) (i : Nat) (l : List Rc) : Msg :=
  if i = 0 then { m with a := l } else if i = 1 then { m with u := l } else { m with x := l }

def partsTo (b : ByteArray) (m0 : Msg) (p1 : Nat) : Nat → Except Int (Msg × Nat)
  | 0 => .ok (m0, p1)
  | i + 1 => match partsTo b m0 p1 i with
    | .error e => .error e
    | .ok (m, p) => match rcTo b i p (num b (2 * (3 + i)) 2) with
      | .error e => .error e
      | .ok (l, p') => .ok (setPart m i l, p')

/-- The message that the records are put into. -/
def msgQ (b : ByteArray) (q : List Qs) : Msg := ⟨num b 0 2, num b 2 2, q, [], [], []⟩

theorem parseP_parts (b : ByteArray) (h : b.size ≤ 65535) (h12 : 12 ≤ b.size) : parseP b = match qsTo b 12 (num b 4 2) with
    | .error e => .error e
    | .ok (q, p1) => match partsTo b (msgQ b q) p1 3 with
      | .error e => .error e
      | .ok (m, p) => if p ≠ b.size then .error 6 else .ok m := by
  unfold parseP
  rw [if_neg (by omega), if_neg (by omega)]
  cases qsTo b 12 (num b 4 2) with
  | error e => rfl
  | ok z =>
    obtain ⟨q, p1⟩ := z
    simp only [partsTo]
    have e0 : 2 * (3 + 0) = 6 := rfl
    have e1 : 2 * (3 + 1) = 8 := rfl
    have e2 : 2 * (3 + 2) = 10 := rfl
    rw [e0]
    cases rcTo b 0 p1 (num b 6 2) with
    | error e => rfl
    | ok z =>
      obtain ⟨a, p2⟩ := z
      simp only
      rw [e1]
      cases rcTo b 1 p2 (num b 8 2) with
      | error e => rfl
      | ok z =>
        obtain ⟨u, p3⟩ := z
        simp only
        rw [e2]
        cases rcTo b 2 p3 (num b 10 2) with
        | error e => rfl
        | ok z => rfl

theorem parse_err_q (b : ByteArray) (h : b.size ≤ 65535) (h12 : 12 ≤ b.size) (j : Nat) (hj : j ≤ num b 4 2) (x : Int) (he : qsTo b 12 j = .error x) : parseP b = .error x := by
  rw [parseP_parts b h h12, qsTo_err b 12 j x he _ hj]

theorem partsTo_err (b : ByteArray) (m0 : Msg) (p1 j : Nat) (x : Int) (h : partsTo b m0 p1 j = .error x) : ∀ i, j ≤ i → partsTo b m0 p1 i = .error x := by
  intro i hi
  obtain ⟨d, rfl⟩ : ∃ d, i = j + d := ⟨i - j, by omega⟩
  clear hi
  induction d with
  | zero => exact h
  | succ d ih => rw [← Nat.add_assoc, partsTo, ih]

theorem parse_err_p (b : ByteArray) (h : b.size ≤ 65535) (h12 : 12 ≤ b.size) (q : List Qs) (p1 : Nat) (hq : qsTo b 12 (num b 4 2) = .ok (q, p1)) (i : Nat) (hi : i < 3) (m : Msg) (p : Nat) (hp : partsTo b (msgQ b q) p1 i = .ok (m, p))
    (j : Nat) (hj : j ≤ num b (2 * (3 + i)) 2) (x : Int) (he : rcTo b i p j = .error x) : parseP b = .error x := by
  have h1 : partsTo b (msgQ b q) p1 (i + 1) = .error x := by
    rw [partsTo, hp]; simp only; rw [rcTo_err b i p j x he _ hj]
  rw [parseP_parts b h h12, hq]
  simp only
  rw [partsTo_err b _ p1 (i + 1) x h1 3 (by omega)]

theorem parse_end (b : ByteArray) (h : b.size ≤ 65535) (h12 : 12 ≤ b.size) (q : List Qs) (p1 : Nat) (hq : qsTo b 12 (num b 4 2) = .ok (q, p1)) (m : Msg) (p : Nat) (hp : partsTo b (msgQ b q) p1 3 = .ok (m, p)) :
    parseP b = if p ≠ b.size then .error 6 else .ok m := by
  rw [parseP_parts b h h12, hq]
  simp only
  rw [hp]

theorem partsTo_next (b : ByteArray) (m0 : Msg) (p1 i : Nat) (m : Msg) (p : Nat) (hp : partsTo b m0 p1 i = .ok (m, p)) (l : List Rc) (p' : Nat) (hl : rcTo b i p (num b (2 * (3 + i)) 2) = .ok (l, p')) : partsTo b m0 p1 (i + 1) = .ok (setPart m i l, p') := by
  rw [partsTo, hp]; simp only; rw [hl]

theorem partsTo_bounds (b : ByteArray) (m0 : Msg) (p1 : Nat) (h1 : p1 ≤ b.size) : ∀ i m p, partsTo b m0 p1 i = .ok (m, p) → p ≤ b.size := by
  intro i
  induction i with
  | zero => intro m p h; simp only [partsTo, Except.ok.injEq, Prod.mk.injEq] at h; omega
  | succ i ih =>
    intro m p h
    rw [partsTo] at h
    generalize partsTo b m0 p1 i = x at h ih
    cases x with
    | error e => simp at h
    | ok z =>
      obtain ⟨m', p'⟩ := z
      have h2 := ih m' p' rfl
      simp only at h
      have h3 := rcTo_bounds b i p' h2 (num b (2 * (3 + i)) 2)
      generalize rcTo b i p' (num b (2 * (3 + i)) 2) = y at h h3
      cases y with
      | error e => simp at h
      | ok z =>
        obtain ⟨l, p''⟩ := z
        simp only [Except.ok.injEq, Prod.mk.injEq] at h
        obtain ⟨_, rfl⟩ := h
        exact (h3 l p'' rfl).2.2

end Go.Proofs.Ytdhobdmhnocbgaa.Zr
namespace Go.Proofs.Ytdhobdmhnocbgaa
open Go.RowKit Zr

def Under (v : Value) (M : Nat) : Prop := ∀ g, v.ownBlock = some g → g < M
theorem under_of {w : World} {N : Nat} {e : TypeId} {size : Nat} {v : Value} {n : Nat} {xs : List Value} (h : w.ownsRow N e size v n xs) : Under v w.heap.size := fun g hg => (h.lt g hg).2
theorem Apart.symm {u v : Value} (h : Apart u v) : Apart v u := fun g hv hu => h g hu hv

/-- The message's lists lie below M. -/
def MsgUnder (v : Value) (M : Nat) : Prop := ∀ i f s1 s2 s3 s4, v = .agg #[i, f, s1, s2, s3, s4] → Under s1 M ∧ Under s2 M ∧ Under s3 M ∧ Under s4 M

theorem MsgIs.under {w : World} {N : Nat} {v : Value} {m : Msg} (h : MsgIs w N v m) : MsgUnder v w.heap.size := by
  obtain ⟨a1, c1, a2, c2, a3, c3, a4, c4, rfl, o1, o2, o3, o4, _⟩ := h
  intro i f s1 s2 s3 s4 hv
  simp only [Value.agg.injEq, Array.mk.injEq, List.cons.injEq, and_true] at hv
  obtain ⟨_, _, rfl, rfl, rfl, rfl⟩ := hv
  exact ⟨under_of o1, under_of o2, under_of o3, under_of o4⟩

theorem MsgIs.grown {w w' : World} {N M : Nat} {v : Value} {m : Msg} {row : Option Nat} (h : MsgIs w N v m) (hu : MsgUnder v M) (hg : w.grownBy w' row) (hr : ∀ g, row = some g → M ≤ g) : MsgIs w' N v m := by
  obtain ⟨a1, c1, a2, c2, a3, c3, a4, c4, hv, o1, o2, o3, o4, ap⟩ := h
  obtain ⟨u1, u2, u3, u4⟩ := hu _ _ _ _ _ _ hv
  have ne : ∀ {s : Value}, Under s M → s.ownBlock = none ∨ s.ownBlock ≠ row := by
    intro s hs
    cases hc : s.ownBlock with
    | none => exact .inl rfl
    | some g =>
      refine .inr (fun e => ?_)
      have h1 := hs g hc
      have h2 := hr g e.symm
      omega
  exact ⟨a1, c1, a2, c2, a3, c3, a4, c4, hv, o1.kept hg (ne u1), o2.kept hg (ne u2), o3.kept hg (ne u3), o4.kept hg (ne u4), ap⟩

theorem MsgIs.below {w w' : World} {N : Nat} {v : Value} {m : Msg} (h : MsgIs w N v m) (hb : Below w.heap.size w w') : MsgIs w' N v m :=
  h.grown h.under (grown_below (row := none) hb) (fun g hg => by cases hg)

theorem apart_new {w : World} {M : Nat} {e : TypeId} {size : Nat} {u v : Value} {n : Nat} {xs : List Value} (hu : Under u M) (hv : w.ownsRow M e size v n xs) : Apart u v := by
  intro g h1 h2
  have := hu g h1
  have := (hv.lt g h2).1
  omega

theorem MsgIs.put0 {w : World} {N M : Nat} {i f s1 s2 s3 s4 : Value} {m : Msg} {a : Option Addr} {l : List Rc} {c : Nat} (h : MsgIs w N (.agg #[i, f, s1, s2, s3, s4]) m) (hu : MsgUnder (.agg #[i, f, s1, s2, s3, s4]) M) (hN : N ≤ M)
    (ho : w.ownsRow M 86 5 (.slice a l.length c) l.length (rcells l)) : MsgIs w N (.agg #[i, f, s1, .slice a l.length c, s3, s4]) (setPart m 0 l) := by
  obtain ⟨a1, c1, a2, c2, a3, c3, a4, c4, hv, o1, o2, o3, o4, p12, p13, p14, p23, p24, p34⟩ := h
  obtain ⟨u1, u2, u3, u4⟩ := hu _ _ _ _ _ _ rfl
  simp only [Value.agg.injEq, Array.mk.injEq, List.cons.injEq, and_true] at hv
  obtain ⟨rfl, rfl, rfl, rfl, rfl, rfl⟩ := hv
  exact ⟨a1, c1, a, c, a3, c3, a4, c4, rfl, o1, owns_mono ho hN, o3, o4, apart_new u1 ho, p13, p14, (apart_new u3 ho).symm, (apart_new u4 ho).symm, p34⟩
theorem MsgIs.put1 {w : World} {N M : Nat} {i f s1 s2 s3 s4 : Value} {m : Msg} {a : Option Addr} {l : List Rc} {c : Nat} (h : MsgIs w N (.agg #[i, f, s1, s2, s3, s4]) m) (hu : MsgUnder (.agg #[i, f, s1, s2, s3, s4]) M) (hN : N ≤ M)
    (ho : w.ownsRow M 86 5 (.slice a l.length c) l.length (rcells l)) : MsgIs w N (.agg #[i, f, s1, s2, .slice a l.length c, s4]) (setPart m 1 l) := by
  obtain ⟨a1, c1, a2, c2, a3, c3, a4, c4, hv, o1, o2, o3, o4, p12, p13, p14, p23, p24, p34⟩ := h
  obtain ⟨u1, u2, u3, u4⟩ := hu _ _ _ _ _ _ rfl
  simp only [Value.agg.injEq, Array.mk.injEq, List.cons.injEq, and_true] at hv
  obtain ⟨rfl, rfl, rfl, rfl, rfl, rfl⟩ := hv
  exact ⟨a1, c1, a2, c2, a, c, a4, c4, rfl, o1, o2, owns_mono ho hN, o4, p12, apart_new u1 ho, p14, apart_new u2 ho, p24, (apart_new u4 ho).symm⟩
theorem MsgIs.put2 {w : World} {N M : Nat} {i f s1 s2 s3 s4 : Value} {m : Msg} {a : Option Addr} {l : List Rc} {c : Nat} (h : MsgIs w N (.agg #[i, f, s1, s2, s3, s4]) m) (hu : MsgUnder (.agg #[i, f, s1, s2, s3, s4]) M) (hN : N ≤ M)
    (ho : w.ownsRow M 86 5 (.slice a l.length c) l.length (rcells l)) : MsgIs w N (.agg #[i, f, s1, s2, s3, .slice a l.length c]) (setPart m 2 l) := by
  obtain ⟨a1, c1, a2, c2, a3, c3, a4, c4, hv, o1, o2, o3, o4, p12, p13, p14, p23, p24, p34⟩ := h
  obtain ⟨u1, u2, u3, u4⟩ := hu _ _ _ _ _ _ rfl
  simp only [Value.agg.injEq, Array.mk.injEq, List.cons.injEq, and_true] at hv
  obtain ⟨rfl, rfl, rfl, rfl, rfl, rfl⟩ := hv
  exact ⟨a1, c1, a2, c2, a3, c3, a, c, rfl, o1, o2, o3, owns_mono ho hN, p12, p13, apart_new u1 ho, p23, apart_new u2 ho, apart_new u3 ho⟩

/-- With the questions alone. -/
theorem msgQ_is {w : World} {N : Nat} (b : ByteArray) (q : List Qs) {a : Option Addr} {c : Nat} (h : w.ownsRow N 74 3 (.slice a q.length c) q.length (qcells q)) :
    MsgIs w N (.agg #[.int .i64 (num b 0 2), .int .i64 (num b 2 2), .slice a q.length c, .slice none 0 0, .slice none 0 0, .slice none 0 0]) (msgQ b q) :=
  ⟨a, c, none, 0, none, 0, none, 0, rfl, h, World.ownsRow_nil _ _ _ _, World.ownsRow_nil _ _ _ _, World.ownsRow_nil _ _ _ _,
    fun g _ h2 => by simp [Value.ownBlock] at h2, fun g _ h2 => by simp [Value.ownBlock] at h2, fun g _ h2 => by simp [Value.ownBlock] at h2, fun g _ h2 => by simp [Value.ownBlock] at h2, fun g _ h2 => by simp [Value.ownBlock] at h2, fun g _ h2 => by simp [Value.ownBlock] at h2⟩

end Go.Proofs.Ytdhobdmhnocbgaa
