/-
  The reply in memory; plain facts of its message.
-/
/-
  The message of a reply, in the making.
-/
/-
  Walks: the message of a reply.
-/
/-
  Walks: how many sets fit; the reply's bytes; limit, options, refusal.
-/
/-
  Walks: limit, options, refusal; plain: how many records are wanted at most; the zone's records are short.
-/
/-
  Plain: how many records are wanted at most; the zone's records are short and not too many. Walks: look.
-/
/-
  Walks: look.
-/
/-
  Walks: take.
-/
import Derived.Test.YtdhobdmhnocbgaaGreatSAnF
import Derived.Laws.BitsAllLaws
namespace Go.Proofs.YtdhobdmhnocbgaaGreat
open Go.RowKit Zr

theorem i64_or_nat (a b : Nat) (ha : a < 65536) (hb : b < 65536) : bits .or .i64 (a : Int) (b : Int) = ((a ||| b : Nat) : Int) := by
  have hx : a ||| b < 2 ^ 16 := Nat.or_lt_two_pow (by omega) (by omega)
  show IntKind.i64.wrap ((BitVec.ofInt 64 (a : Int) ||| BitVec.ofInt 64 (b : Int)).toNat : Int) = _
  rw [BitVec.toNat_or, BitVec.ofInt_natCast, BitVec.ofInt_natCast, BitVec.toNat_ofNat, BitVec.toNat_ofNat, Nat.mod_eq_of_lt (by omega), Nat.mod_eq_of_lt (by omega), IntKind.wrap_i64]
  omega
theorem i64_and_nat (a b : Nat) (ha : a < 65536) (hb : b < 65536) : bits .and .i64 (a : Int) (b : Int) = ((a &&& b : Nat) : Int) := by
  have hx : a &&& b < 2 ^ 16 := Nat.and_lt_two_pow _ (by omega)
  show IntKind.i64.wrap ((BitVec.ofInt 64 (a : Int) &&& BitVec.ofInt 64 (b : Int)).toNat : Int) = _
  rw [BitVec.toNat_and, BitVec.ofInt_natCast, BitVec.ofInt_natCast, BitVec.toNat_ofNat, BitVec.toNat_ofNat, Nat.mod_eq_of_lt (by omega), Nat.mod_eq_of_lt (by omega), IntKind.wrap_i64]
  omega

/-- Sets that lie in memory. -/
def SetsAt (w : World) (a : Option Addr) (L : List ST) : Prop :=
  ∀ i (_ : i < L.length), ∃ b o a' c', a = some ⟨b, o, none⟩ ∧ b < w.heap.size ∧ w.cell? ⟨b, o + i * 3, none⟩ = some (.int .i64 (L[i].part : Nat)) ∧ w.cell? ⟨b, o + i * 3 + 1, none⟩ = some (.int .i64 L[i].kind) ∧ w.cell? ⟨b, o + i * 3 + 2, none⟩ = some (.slice a' L[i].l.length c') ∧ RecRow w a' L[i].l ∧ L[i].l.length ≤ c'
theorem SetsAt.below {w w' : World} {a : Option Addr} {L : List ST} (h : SetsAt w a L) (hb : Below w.heap.size w w') : SetsAt w' a L := by
  intro i hi
  obtain ⟨b, o, a', c', h1, h2, h3, h4, h5, h6, h7⟩ := h i hi
  exact ⟨b, o, a', c', h1, Nat.lt_of_lt_of_le h2 hb.size, (hb.cell (p := ⟨b, o + i * 3, none⟩) h2).trans h3, (hb.cell (p := ⟨b, o + i * 3 + 1, none⟩) h2).trans h4, (hb.cell (p := ⟨b, o + i * 3 + 2, none⟩) h2).trans h5, h6.below hb, h7⟩

/-- Sets as they come: none is empty; records with short texts; a part that there is. -/
def SetsOk (L : List ST) : Prop := (∀ s, s ∈ L → s.l ≠ [] ∧ s.part ≤ 2 ∧ RSized' s.l) ∧ (L.flatMap ST.l).length ≤ 134217720

/-- A reply in block X. -/
def Rp (w : World) (X : Nat) (x : Rep) : Prop := ∃ aq cq a c,
  w.heap[X]? = some (.cells #[.int .i64 (x.id : Nat), .int .i64 (x.fl : Nat), .int .i64 (x.told : Nat), .slice aq x.q.length cq, .bool x.opt, .slice a x.sets.length c, .int .i64 (x.lim : Nat)] 76 (0, 0)) ∧
  RowAt w w.heap.size aq (qcI x.q) ∧ x.q.length ≤ cq ∧ QSized x.q ∧ SetsAt w a x.sets ∧ SetsOk x.sets ∧ x.sets.length ≤ 134217720 ∧ x.id < 65536 ∧ x.fl < 65536 ∧ x.told ≤ 16 ∧ x.lim ≤ 65535

theorem Rp.below {w w' : World} {X : Nat} {x : Rep} (h : Rp w X x) (hb : Below w.heap.size w w') : Rp w' X x := by
  obtain ⟨aq, cq, a, c, h1, h2, h3, h4, h5, h6⟩ := h
  exact ⟨aq, cq, a, c, (hb.block X (blk_lt h1)).trans h1, (h2.below hb).mono hb.size, h3, h4, h5.below hb, h6⟩
theorem Rp.lt {w : World} {X : Nat} {x : Rep} (h : Rp w X x) : X < w.heap.size := by
  obtain ⟨aq, cq, a, c, h1, _⟩ := h
  exact blk_lt h1

theorem an_cells7 {w : World} {k : Nat} {a b c d e f g : Value} {t : TypeId} (h : w.heap[k]? = some (.cells #[a, b, c, d, e, f, g] t (0, 0))) :
    (w.cell? ⟨k, 0, none⟩ = some a ∧ w.cell? ⟨k, 1, none⟩ = some b ∧ w.cell? ⟨k, 2, none⟩ = some c ∧ w.cell? ⟨k, 3, none⟩ = some d ∧ w.cell? ⟨k, 4, none⟩ = some e ∧ w.cell? ⟨k, 5, none⟩ = some f ∧ w.cell? ⟨k, 6, none⟩ = some g) ∧
    w.frozen? ⟨k, 0, none⟩ = false ∧ w.frozen? ⟨k, 1, none⟩ = false ∧ w.frozen? ⟨k, 2, none⟩ = false ∧ w.frozen? ⟨k, 3, none⟩ = false ∧ w.frozen? ⟨k, 4, none⟩ = false ∧ w.frozen? ⟨k, 5, none⟩ = false ∧ w.frozen? ⟨k, 6, none⟩ = false := by
  refine ⟨⟨?_, ?_, ?_, ?_, ?_, ?_, ?_⟩, frozen_of_blk h _, frozen_of_blk h _, frozen_of_blk h _, frozen_of_blk h _, frozen_of_blk h _, frozen_of_blk h _, frozen_of_blk h _⟩ <;> (rw [cell_of_blk h]; rfl)

theorem rcI_ones (l : List RI) : ∀ v, v ∈ rcI l → v.oneCell' = true := by
  intro v hv
  unfold rcI at hv
  rw [List.mem_flatMap] at hv
  obtain ⟨x, _, hx⟩ := hv
  exact one5 v hx
theorem rcI_cat (l m : List RI) : rcI (l ++ m) = rcI l ++ rcI m := by unfold rcI; rw [List.flatMap_append]
theorem rcI_size (l : List RI) : (rcI l).length = l.length * 5 := by
  induction l with
  | nil => rfl
  | cons x l ih =>
    have : rcI (x :: l) = [.string x.name, .int .i64 x.ty, .int .i64 x.cl, .int .i64 x.ttl, .string x.data] ++ rcI l := rfl
    rw [this, List.length_append, ih]
    simp only [List.length_cons, List.length_nil]
    omega

/-- What is appended of a set. -/
theorem set_src {w : World} {a : Option Addr} {l : List RI} (c : Nat) (h : RecRow w a l) (hl : l ≠ []) : Src Tryz.prog 5 30 (.slice a l.length c) l.length (rcI l) w := by
  obtain ⟨g, o, cs, rfl, h2, h3⟩ := h hl
  exact Src.ofSlice _ Tryz.underlying30 ⟨g, o, none⟩ _ _ _ (rcI_size l) (fun j u hu => by
    rw [Addr.add_lit, cell_of_blk h2]
    exact h3 j u hu) (rcI_ones l)

/-- The records of a part, of the first sets. -/
def pTo (L : List ST) (c p j : Nat) : List RI := partP (L.take (min j c)) p

theorem partP_cat (A B : List ST) (p : Nat) : partP (A ++ B) p = partP A p ++ partP B p := by
  unfold partP
  rw [List.filter_append, List.flatMap_append]
theorem pTo_late (L : List ST) (c p j : Nat) (h : c ≤ j) : pTo L c p (j + 1) = pTo L c p j := by
  unfold pTo
  rw [Nat.min_eq_right h, Nat.min_eq_right (by omega)]
theorem pTo_step (L : List ST) (c p j : Nat) (h : j < c) (hj : j < L.length) : (L[j].part = p → pTo L c p (j + 1) = pTo L c p j ++ L[j].l) ∧ (L[j].part ≠ p → pTo L c p (j + 1) = pTo L c p j) := by
  have e : pTo L c p (j + 1) = partP (L.take j) p ++ partP [L[j]] p := by
    unfold pTo
    rw [Nat.min_eq_left (by omega), List.take_succ_eq_append_getElem hj, partP_cat]
  have e2 : pTo L c p j = partP (L.take j) p := by unfold pTo; rw [Nat.min_eq_left (by omega)]
  rw [e, e2]
  refine ⟨fun q => ?_, fun q => ?_⟩
  · congr 1
    unfold partP
    rw [List.filter_cons_of_pos (by simpa using q)]
    simp
  · unfold partP
    rw [List.filter_cons_of_neg (by simpa using q)]
    simp
theorem pTo_all (L : List ST) (c p : Nat) : pTo L c p L.length = partP (L.take c) p := by
  unfold pTo
  rcases Nat.le_total L.length c with h | h
  · rw [Nat.min_eq_left h, List.take_length, List.take_of_length_le h]
  · rw [Nat.min_eq_right h]
theorem cut_step (L : List ST) (c f j : Nat) (h : j < L.length) : flagTo L c f (j + 1) = if c ≤ j ∧ L[j].part ≠ 2 then flagTo L c f j ||| 512 else flagTo L c f j := by
  conv => lhs; unfold flagTo
  rw [List.getElem?_eq_getElem h]
theorem cut_lt (L : List ST) (c f : Nat) (h : f < 65536) : ∀ j, flagTo L c f j < 65536
  | 0 => h
  | j + 1 => by
    have ih := cut_lt L c f h j
    rcases Nat.lt_or_ge j L.length with k | k
    · rw [cut_step L c f j k]
      split
      · exact Nat.or_lt_two_pow (n := 16) ih (by decide)
      · exact ih
    · have : flagTo L c f (j + 1) = flagTo L c f j := by
        conv => lhs; unfold flagTo
        rw [List.getElem?_eq_none k]
      rw [this]
      exact ih
theorem partP_sub {L : List ST} {p : Nat} {x : RI} (h : x ∈ partP L p) : ∃ s, s ∈ L ∧ x ∈ s.l := by
  unfold partP at h
  rw [List.mem_flatMap] at h
  obtain ⟨s, hs, hx⟩ := h
  exact ⟨s, (List.mem_filter.1 hs).1, hx⟩
theorem flat_le {A B : List ST} (h : List.Sublist A B) : (A.flatMap ST.l).length ≤ (B.flatMap ST.l).length := by
  induction h with
  | slnil => exact Nat.le_refl _
  | cons a _ ih => rw [List.flatMap_cons, List.length_append]; omega
  | cons_cons a _ ih => rw [List.flatMap_cons, List.flatMap_cons, List.length_append, List.length_append]; omega
theorem pTo_len (L : List ST) (c p j : Nat) : (pTo L c p j).length ≤ (L.flatMap ST.l).length :=
  flat_le ((List.filter_sublist).trans (List.take_sublist _ _))

end Go.Proofs.YtdhobdmhnocbgaaGreat

namespace Go.Proofs.YtdhobdmhnocbgaaGreat
open Go.RowKit Zr

/-- A row stays while another one, apart from it, grows. -/
theorem owns_apart {w w' : World} {N : Nat} {e : TypeId} {size : Nat} {u v : Value} {n : Nat} {xs : List Value} (h : w.ownsRow N e size v n xs) (hg : w.grownBy w' u.ownBlock) (ha : Apart u v) : w'.ownsRow N e size v n xs := by
  refine ⟨h.1, ?_⟩
  rcases h.2 with hn | ⟨g, cap, cur, hv, hb, hk, rest⟩
  · exact .inl hn
  · refine .inr ⟨g, cap, cur, hv, hb, (hg.block g (blk_lt hk) (fun e => ?_)).trans hk, rest⟩
    exact ha g e.symm (by rw [hv]; rfl)
/-- What has grown is apart from what was apart from the old. -/
theorem apart_grown {w : World} {N : Nat} {e : TypeId} {size : Nat} {u u' v : Value} {n : Nat} {xs : List Value} (h : w.ownsRow N e size v n xs) (ha : Apart u v) (hat : u'.ownBlock = u.ownBlock ∨ u'.ownBlock = some w.heap.size) : Apart u' v := by
  intro g hu hv
  rcases hat with k | k
  · exact ha g (by rw [← k]; exact hu) hv
  · rw [k] at hu
    cases hu
    have := (h.lt _ hv).2
    omega
theorem apart_symm {u v : Value} (h : Apart u v) : Apart v u := fun g hv hu => h g hu hv

structure MBx (w0 : World) (M : Nat) (id f : Int) (vq : Value) (a2 : Option Addr) (c2 : Nat) (a3 : Option Addr) (c3 : Nat) (a4 : Option Addr) (c4 : Nat) (P0 P1 P2 : List RI) (w : World) : Prop where
  m : w.heap[M]? = some (.cells #[.int .i64 id, .int .i64 f, vq, .slice a2 P0.length c2, .slice a3 P1.length c3, .slice a4 P2.length c4] 32 (0, 0))
  o2 : w.ownsRow w0.heap.size 42 5 (.slice a2 P0.length c2) P0.length (rcI P0)
  o3 : w.ownsRow w0.heap.size 42 5 (.slice a3 P1.length c3) P1.length (rcI P1)
  o4 : w.ownsRow w0.heap.size 42 5 (.slice a4 P2.length c4) P2.length (rcI P2)
  p23 : Apart (.slice a2 P0.length c2) (.slice a3 P1.length c3)
  p24 : Apart (.slice a2 P0.length c2) (.slice a4 P2.length c4)
  p34 : Apart (.slice a3 P1.length c3) (.slice a4 P2.length c4)
  b : Below w0.heap.size w0 w
  hM : w0.heap.size ≤ M

section
variable {w0 : World} {M : Nat} {id f : Int} {vq : Value} {a2 : Option Addr} {c2 : Nat} {a3 : Option Addr} {c3 : Nat} {a4 : Option Addr} {c4 : Nat} {P0 P1 P2 : List RI} {w : World}

theorem MBx.below (h : MBx w0 M id f vq a2 c2 a3 c3 a4 c4 P0 P1 P2 w) {w' : World} (hb : Below w.heap.size w w') : MBx w0 M id f vq a2 c2 a3 c3 a4 c4 P0 P1 P2 w' :=
  ⟨(hb.block M (blk_lt h.m)).trans h.m, owns_below h.o2 hb, owns_below h.o3 hb, owns_below h.o4 hb, h.p23, h.p24, h.p34, h.b.trans (hb.mono h.b.size), h.hM⟩

theorem MBx.flag (h : MBx w0 M id f vq a2 c2 a3 c3 a4 c4 P0 P1 P2 w) (f' : Int) : MBx w0 M id f' vq a2 c2 a3 c3 a4 c4 P0 P1 P2 (w.setCell ⟨M, 1, none⟩ (.int .i64 f')) :=
  ⟨blk_set h.m 1 _, owns_set_kind h.o2 h.m (by decide) 1 _, owns_set_kind h.o3 h.m (by decide) 1 _, owns_set_kind h.o4 h.m (by decide) 1 _, h.p23, h.p24, h.p34, h.b.setCell h.hM _, h.hM⟩

theorem MBx.app0 (h : MBx w0 M id f vq a2 c2 a3 c3 a4 c4 P0 P1 P2 w) {w' : World} {l : List RI} {a : Option Addr} {c : Nat} (ho : w'.ownsRow w0.heap.size 42 5 (.slice a (P0.length + l.length) c) (P0.length + l.length) (rcI P0 ++ rcI l)) (hg : w.grownBy w' (Value.slice a2 P0.length c2).ownBlock)
    (hat : (Value.slice a (P0.length + l.length) c).ownBlock = (Value.slice a2 P0.length c2).ownBlock ∨ (Value.slice a (P0.length + l.length) c).ownBlock = some w.heap.size) : MBx w0 M id f vq a c a3 c3 a4 c4 (P0 ++ l) P1 P2 (w'.setCell ⟨M, 3, none⟩ (.slice a (P0.length + l.length) c)) := by
  have hm := blk_kind h.o2 hg h.m (by decide)
  rw [← rcI_cat] at ho
  constructor
  · rw [List.length_append]; exact blk_set hm 3 _
  · rw [List.length_append]; exact owns_set_kind ho hm (by decide) 3 _
  · exact owns_set_kind (owns_apart h.o3 hg h.p23) hm (by decide) 3 _
  · exact owns_set_kind (owns_apart h.o4 hg h.p24) hm (by decide) 3 _
  · rw [List.length_append]; exact apart_grown h.o3 h.p23 hat
  · rw [List.length_append]; exact apart_grown h.o4 h.p24 hat
  · exact h.p34
  · exact (h.b.trans (below_append h.o2 hg h.b.size)).setCell h.hM _
  · exact h.hM
theorem MBx.app1 (h : MBx w0 M id f vq a2 c2 a3 c3 a4 c4 P0 P1 P2 w) {w' : World} {l : List RI} {a : Option Addr} {c : Nat} (ho : w'.ownsRow w0.heap.size 42 5 (.slice a (P1.length + l.length) c) (P1.length + l.length) (rcI P1 ++ rcI l)) (hg : w.grownBy w' (Value.slice a3 P1.length c3).ownBlock)
    (hat : (Value.slice a (P1.length + l.length) c).ownBlock = (Value.slice a3 P1.length c3).ownBlock ∨ (Value.slice a (P1.length + l.length) c).ownBlock = some w.heap.size) : MBx w0 M id f vq a2 c2 a c a4 c4 P0 (P1 ++ l) P2 (w'.setCell ⟨M, 4, none⟩ (.slice a (P1.length + l.length) c)) := by
  have hm := blk_kind h.o3 hg h.m (by decide)
  rw [← rcI_cat] at ho
  constructor
  · rw [List.length_append]; exact blk_set hm 4 _
  · exact owns_set_kind (owns_apart h.o2 hg (apart_symm h.p23)) hm (by decide) 4 _
  · rw [List.length_append]; exact owns_set_kind ho hm (by decide) 4 _
  · exact owns_set_kind (owns_apart h.o4 hg h.p34) hm (by decide) 4 _
  · rw [List.length_append]; exact apart_symm (apart_grown h.o2 (apart_symm h.p23) hat)
  · exact h.p24
  · rw [List.length_append]; exact apart_grown h.o4 h.p34 hat
  · exact (h.b.trans (below_append h.o3 hg h.b.size)).setCell h.hM _
  · exact h.hM
theorem MBx.app2 (h : MBx w0 M id f vq a2 c2 a3 c3 a4 c4 P0 P1 P2 w) {w' : World} {l : List RI} {a : Option Addr} {c : Nat} (ho : w'.ownsRow w0.heap.size 42 5 (.slice a (P2.length + l.length) c) (P2.length + l.length) (rcI P2 ++ rcI l)) (hg : w.grownBy w' (Value.slice a4 P2.length c4).ownBlock)
    (hat : (Value.slice a (P2.length + l.length) c).ownBlock = (Value.slice a4 P2.length c4).ownBlock ∨ (Value.slice a (P2.length + l.length) c).ownBlock = some w.heap.size) : MBx w0 M id f vq a2 c2 a3 c3 a c P0 P1 (P2 ++ l) (w'.setCell ⟨M, 5, none⟩ (.slice a (P2.length + l.length) c)) := by
  have hm := blk_kind h.o4 hg h.m (by decide)
  rw [← rcI_cat] at ho
  constructor
  · rw [List.length_append]; exact blk_set hm 5 _
  · exact owns_set_kind (owns_apart h.o2 hg (apart_symm h.p24)) hm (by decide) 5 _
  · exact owns_set_kind (owns_apart h.o3 hg (apart_symm h.p34)) hm (by decide) 5 _
  · rw [List.length_append]; exact owns_set_kind ho hm (by decide) 5 _
  · exact h.p23
  · rw [List.length_append]; exact apart_symm (apart_grown h.o2 (apart_symm h.p24) hat)
  · rw [List.length_append]; exact apart_symm (apart_grown h.o3 (apart_symm h.p34) hat)
  · exact (h.b.trans (below_append h.o4 hg h.b.size)).setCell h.hM _
  · exact h.hM
end

theorem cut_m (p : Nat) (w : World) : Calls Tryz.prog 116 #[.int .i64 (p : Nat)] w fun e w' => e = .returned (.int .i64 ((if p = 2 then 0 else 512 : Nat) : Int)) ∧ w' = w := by
  by_cases c : p = 2
  · subst c
    go_enter Tryz.func116, Tryz.ntmps116
    go_wp2_with fail
    go_ret
    exact ⟨rfl, rfl⟩
  · have f : ((p : Int) == 2) = false := beq_eq_false_iff_ne.2 (by omega)
    rw [if_neg c]
    go_enter Tryz.func116, Tryz.ntmps116
    go_wp2_with fail
    go_ret
    exact ⟨rfl, rfl⟩

set_option maxRecDepth 100000 in
set_option maxHeartbeats 2000000 in
theorem opt_m (X : Nat) (x : Rep) (w : World) (h : Rp w X x) : Calls Tryz.prog 117 #[.pointer (some ⟨X, 0, none⟩)] w fun e w' => e = .returned (.agg #[.string ⟨#[0]⟩, .int .i64 41, .int .i64 4096, .int .i64 ((x.told / 16 * 16777216 : Nat) : Int), .string ⟨#[]⟩]) ∧ Below w.heap.size w w' := by
  obtain ⟨aq, cq, a, c, hX, _, _, _, _, _, _, _, _, ht, _⟩ := h
  obtain ⟨⟨x0, x1, x2, x3, x4, x5, x6⟩, _⟩ := an_cells7 hX
  have hlt := blk_lt hX
  clear hX
  generalize x.told = t at *
  go_enter Tryz.func117, Tryz.ntmps117
  go_wp2_with fail
  have hA := heap_alloc_new w (.cells #[.string ⟨#[0]⟩, .int .i64 41, .int .i64 4096, .int .i64 ((t : Int) / 16 * 16777216), .string ⟨#[]⟩] 42)
  obtain ⟨⟨g0, g1, g2, g3, g4⟩, _⟩ := cells5 hA
  have e : ((t / 16 * 16777216 : Nat) : Int) = (t : Int) / 16 * 16777216 := by omega
  refine bodyPost_ret (v := .agg #[.string ⟨#[0]⟩, .int .i64 41, .int .i64 4096, .int .i64 ((t : Int) / 16 * 16777216), .string ⟨#[]⟩]) (by simp [results, Tryz.results117, go_sem, g0, g1, g2, g3, g4]) rfl ?_
  exact ⟨by rw [e], (Below.refl _ _).alloc (Nat.le_refl _) _⟩

end Go.Proofs.YtdhobdmhnocbgaaGreat

namespace Go.Proofs.YtdhobdmhnocbgaaGreat
open Go.RowKit Zr

/-- A message that comes out. -/
def MsgOut (w : World) (m : MI) (e : Ending) (w' : World) : Prop := ∃ v, e = .returned v ∧ MsgAt w' w'.heap.size v m ∧ Below w.heap.size w w'

theorem owns_store6 {w : World} {B N : Nat} {e : TypeId} {size : Nat} {v : Value} {n : Nat} {xs : List Value} (h : w.ownsRow B e size v n xs) {cs : Array Value} {t : TypeId} (hR : w.heap[N]? = some (.cells cs t (0, 0))) (hne : e ≠ t) (v0 v1 v2 v3 v4 v5 : Value) :
    ((((((w.setCell ⟨N, 0, none⟩ v0).setCell ⟨N, 1, none⟩ v1).setCell ⟨N, 2, none⟩ v2).setCell ⟨N, 3, none⟩ v3).setCell ⟨N, 4, none⟩ v4).setCell ⟨N, 5, none⟩ v5).ownsRow B e size v n xs := by
  have h1 := blk_set hR 0 v0
  have h2 := blk_set h1 1 v1
  have h3 := blk_set h2 2 v2
  have h4 := blk_set h3 3 v3
  have h5 := blk_set h4 4 v4
  exact owns_set_kind (owns_set_kind (owns_set_kind (owns_set_kind (owns_set_kind (owns_set_kind h hR hne 0 v0) h1 hne 1 v1) h2 hne 2 v2) h3 hne 3 v3) h4 hne 4 v4) h5 hne 5 v5

theorem sized_of {l : List RI} (h : ∀ x, x ∈ l → x.name.size ≤ 4294967296 ∧ x.data.size ≤ 4294967296) : RSized l := fun i hi => by
  have := h _ (List.getElem_mem hi)
  omega
theorem part_sized {L : List ST} (h : SetsOk L) (c p : Nat) : ∀ x, x ∈ partP (L.take c) p → x.name.size ≤ 4294967296 ∧ x.data.size ≤ 4294967296 := fun x hx => by
  obtain ⟨s, hs, hx⟩ := partP_sub hx
  exact (h.1 s (List.mem_of_mem_take hs)).2.2 x hx
theorem opts_sized (x : Rep) : ∀ y, y ∈ optsP x → y.name.size ≤ 4294967296 ∧ y.data.size ≤ 4294967296 := fun y hy => by
  unfold optsP at hy
  split at hy
  · rw [List.mem_singleton] at hy
    subst hy
    exact ⟨by show 1 ≤ 4294967296; decide, by show 0 ≤ 4294967296; decide⟩
  · cases hy

/-- The message, laid into the result's box. -/
theorem msgOut_of {w w1 : World} {x : Rep} {c : Nat} {aq : Option Addr} {cq : Nat} {a2 : Option Addr} {c2 : Nat} {a3 : Option Addr} {c3 : Nat} {a4 : Option Addr} {c4 : Nat} {M N : Nat} {cs : Array Value} {f : Int} {P0 P1 P2 : List RI} (hq1 : RowAt w w.heap.size aq (qcI x.q)) (hq2 : x.q.length ≤ cq) (hq3 : QSized x.q) (hs : SetsOk x.sets)
    (hB : MBx w M (x.id : Nat) f (.slice aq x.q.length cq) a2 c2 a3 c3 a4 c4 P0 P1 P2 w1) (hf : f = ((flagTo x.sets c (x.fl ||| x.told % 16) x.sets.length : Nat) : Int)) (h0 : P0 = pTo x.sets c 0 x.sets.length) (h1 : P1 = pTo x.sets c 1 x.sets.length) (h2 : P2 = pTo x.sets c 2 x.sets.length ++ optsP x)
    (hR : w1.heap[N]? = some (.cells cs 32 (0, 0))) (hN : w.heap.size ≤ N) :
    MsgOut w (repMsg x c) (.returned (.agg #[.int .i64 (x.id : Nat), .int .i64 f, .slice aq x.q.length cq, .slice a2 P0.length c2, .slice a3 P1.length c3, .slice a4 P2.length c4])) ((((((w1.setCell ⟨N, 0, none⟩ (.int .i64 (x.id : Nat))).setCell ⟨N, 1, none⟩ (.int .i64 f)).setCell ⟨N, 2, none⟩ (.slice aq x.q.length cq)).setCell ⟨N, 3, none⟩ (.slice a2 P0.length c2)).setCell ⟨N, 4, none⟩ (.slice a3 P1.length c3)).setCell ⟨N, 5, none⟩ (.slice a4 P2.length c4)) := by
  have hb := below_set6 hB.b hN (.int .i64 (x.id : Nat)) (.int .i64 f) (.slice aq x.q.length cq) (.slice a2 P0.length c2) (.slice a3 P1.length c3) (.slice a4 P2.length c4)
  rw [pTo_all] at h0 h1 h2
  refine ⟨_, rfl, ⟨aq, cq, a2, c2, a3, c3, a4, c4, ?_, (hq1.below hb).mono hb.size, ?_, ?_, ?_, hq3, sized_of (part_sized hs c 0), sized_of (part_sized hs c 1), sized_of ?_, hq2, ?_, ?_, ?_⟩, hb⟩
  · subst hf h0 h1 h2
    rfl
  · have := owns_rowAt (owns_store6 hB.o2 hR (by decide) (.int .i64 (x.id : Nat)) (.int .i64 f) (.slice aq x.q.length cq) (.slice a2 P0.length c2) (.slice a3 P1.length c3) (.slice a4 P2.length c4))
    subst h0
    exact this
  · have := owns_rowAt (owns_store6 hB.o3 hR (by decide) (.int .i64 (x.id : Nat)) (.int .i64 f) (.slice aq x.q.length cq) (.slice a2 P0.length c2) (.slice a3 P1.length c3) (.slice a4 P2.length c4))
    subst h1
    exact this
  · have := owns_rowAt (owns_store6 hB.o4 hR (by decide) (.int .i64 (x.id : Nat)) (.int .i64 f) (.slice aq x.q.length cq) (.slice a2 P0.length c2) (.slice a3 P1.length c3) (.slice a4 P2.length c4))
    subst h2
    exact this
  · intro y hy
    rcases List.mem_append.1 hy with k | k
    · exact part_sized hs c 2 y k
    · exact opts_sized x y k
  · have := (owns_recRow hB.o2).2
    subst h0
    exact this
  · have := (owns_recRow hB.o3).2
    subst h1
    exact this
  · have := (owns_recRow hB.o4).2
    subst h2
    exact this

set_option maxRecDepth 100000 in
set_option maxHeartbeats 4000000 in
theorem message_m (X : Nat) (x : Rep) (c : Nat) (w : World) (h : Rp w X x) (hc : c ≤ 134217720) :
    Calls Tryz.prog 81 #[.pointer (some ⟨X, 0, none⟩), .int .i64 (c : Nat)] w fun e w' => MsgOut w (repMsg x c) e w' := by
  obtain ⟨i0, hi, hz0, hz1, hz2⟩ := info_parts Tryz.info42
  have Hi := hide hi
  have Hz0 := hide hz0
  have Hz1 := hide hz1
  have Hz2 := hide hz2
  clear hi hz0 hz1 hz2
  have HRp := hide h
  obtain ⟨aq, cq, a, cs, hX, hq1, hq2, hq3, hs1, hs2, hs3, hid, hfl, htl, hlm⟩ := h
  obtain ⟨⟨x0, x1, x2, x3, x4, x5, x6⟩, y0, y1, y2, y3, y4, y5, y6⟩ := an_cells7 hX
  have hlt := blk_lt hX
  obtain ⟨N, hN⟩ : ∃ N, w.heap.size = N := ⟨_, rfl⟩
  have hor : bits .or .i64 (x.fl : Int) ((x.told : Int).tmod 16) = ((x.fl ||| x.told % 16 : Nat) : Int) := by
    have e : ((x.told : Int).tmod 16) = ((x.told % 16 : Nat) : Int) := by rw [Int.tmod_eq_emod_of_nonneg (by omega)]; omega
    rw [e]
    exact i64_or_nat _ _ hfl (by omega)
  have hf0 : x.fl ||| x.told % 16 < 65536 := Nat.or_lt_two_pow (n := 16) hfl (by omega)
  clear hX
  go_enter Tryz.func81, Tryz.ntmps81
  go_wp2_with fail
  go_cut [5] (fun p w' => p = .pointer (some ⟨N + 1, 0, none⟩) ∧ Hid (w'.heap[N + 1]? = some (.cells #[.int .i64 (x.id : Nat), .int .i64 ((x.fl ||| x.told % 16 : Nat) : Int), .slice aq x.q.length cq, .slice none 0 0, .slice none 0 0, .slice none 0 0] 32 (0, 0))) ∧ Hid (w'.heap[N]? = some (.cells #[.int .i64 0, .int .i64 0, .slice none 0 0, .slice none 0 0, .slice none 0 0, .slice none 0 0] 32 (0, 0))) ∧ Hid (Below N w w'))
  case first =>
    go_region_held3 (fun u => u.cell? ⟨X, 0, none⟩ = some (.int .i64 (x.id : Nat)) ∧ u.cell? ⟨X, 1, none⟩ = some (.int .i64 (x.fl : Nat)) ∧ u.cell? ⟨X, 2, none⟩ = some (.int .i64 (x.told : Nat)) ∧ u.cell? ⟨X, 3, none⟩ = some (.slice aq x.q.length cq)) (go_keep) (fail)
    all_goals go_wp2_with fail
    all_goals go_meet
    all_goals
      refine ⟨rfl, ?_, ?_, ?_⟩
      · have h1 := (two_new w (.cells #[.int .i64 0, .int .i64 0, .slice none 0 0, .slice none 0 0, .slice none 0 0, .slice none 0 0] 32) (.cells #[.int .i64 (x.id : Nat), .int .i64 ((x.fl ||| x.told % 16 : Nat) : Int), .slice aq x.q.length cq, .slice none 0 0, .slice none 0 0, .slice none 0 0] 32)).2
        rw [hN] at h1
        exact h1
      · have h1 := (two_new w (.cells #[.int .i64 0, .int .i64 0, .slice none 0 0, .slice none 0 0, .slice none 0 0, .slice none 0 0] 32) (.cells #[.int .i64 (x.id : Nat), .int .i64 ((x.fl ||| x.told % 16 : Nat) : Int), .slice aq x.q.length cq, .slice none 0 0, .slice none 0 0, .slice none 0 0] 32)).1
        rw [hN] at h1
        exact h1
      · exact below_drew (((Below.refl _ _).alloc (by omega) _).alloc (by simp; omega) _)
  case rest =>
    obtain ⟨rfl, HM, HR0, HB1⟩ := hcut
    have hMB : MBx w (N + 1) (x.id : Nat) ((x.fl ||| x.told % 16 : Nat) : Int) (.slice aq x.q.length cq) none 0 none 0 none 0 [] [] [] wc := ⟨unhide HM, World.ownsRow_nil _ _ _ _, World.ownsRow_nil _ _ _ _, World.ownsRow_nil _ _ _ _, fun g h => by simp [Value.ownBlock] at h, fun g h => by simp [Value.ownBlock] at h, fun g h => by simp [Value.ownBlock] at h, by rw [hN]; exact unhide HB1, by omega⟩
    have HMB := hide hMB
    have HP0 : Hid (∀ p, pTo x.sets c p 0 = []) := fun p => by unfold pTo; simp [partP]
    have HS2 := hide hs2
    have HQ1 := hide hq1
    have HQ3 := hide hq3
    obtain ⟨vq, hvq⟩ : ∃ vq, Value.slice aq x.q.length cq = vq := ⟨_, rfl⟩
    obtain ⟨F, hF⟩ : ∃ F, x.fl ||| x.told % 16 = F := ⟨_, rfl⟩
    rw [hF] at hMB HMB hf0
    rw [hvq] at hMB HMB
    have HVq := hide hvq
    have HFe := hide hF
    have HLt := hide (cut_lt x.sets c F hf0)
    have HStp := hide (cut_step x.sets c F)
    have HLate := hide (pTo_late x.sets c)
    have HEarly := hide (pTo_step x.sets c)
    have HLen := hide (pTo_len x.sets c)
    have hsum := hs2.2
    clear hMB hor hf0 HM HB1 hq1 hs1 hs2 x0 x1 x2 x3 x4 x5 x6 y0 y1 y2 y3 y4 y5 y6 hvq hF
    go_wp2_with fail
    go_loopg [6] (x.sets.length + 1) (fun g vi w' => ∃ (j : Nat) (a2 : Option Addr) (c2 : Nat) (a3 : Option Addr) (c3 : Nat) (a4 : Option Addr) (c4 : Nat), vi = .int .i64 j ∧ j ≤ x.sets.length ∧ g = x.sets.length + 1 - j ∧ Hid (MBx w (N + 1) (x.id : Nat) ((flagTo x.sets c F j : Nat) : Int) vq a2 c2 a3 c3 a4 c4 (pTo x.sets c 0 j) (pTo x.sets c 1 j) (pTo x.sets c 2 j) w') ∧ Hid (w'.heap[N]? = some (.cells #[.int .i64 0, .int .i64 0, .slice none 0 0, .slice none 0 0, .slice none 0 0, .slice none 0 0] 32 (0, 0))))
    case atStart => exact ⟨0, none, 0, none, 0, none, 0, rfl, Nat.zero_le _, rfl, hide (by rw [unhide HP0, unhide HP0, unhide HP0]; exact unhide HMB), HR0⟩
    case round =>
      obtain ⟨j, a2, c2, a3, c3, a4, c4, rfl, hj, rfl, HB, HR⟩ := hrel
      have hRp := (unhide HRp).below (unhide HB).b
      obtain ⟨aq', cq', a', cs', hX', _, _, _, hs1', _⟩ := hRp
      obtain ⟨⟨x0, x1, x2, x3, x4, x5, x6⟩, y0, y1, y2, y3, y4, y5, y6⟩ := an_cells7 hX'
      have hltX := blk_lt hX'
      obtain ⟨⟨b0, b1, b2, b3, b4, b5⟩, z0, z1, z2, z3, z4, z5⟩ := cells6 (unhide HB).m
      have hltM := blk_lt (unhide HB).m
      clear hX'
      by_cases cj : j < x.sets.length
      · obtain ⟨b, o, a5, c5, rfl, hb, e0, e1, e2, e3, e4⟩ := hs1' j cj
        clear hs1'
        have hmem := (unhide HS2).1 _ (List.getElem_mem cj)
        have hst := unhide HStp j cj
        have hlt := unhide HLt j
        have hl0 := unhide HLen 0 (j + 1)
        have hl1 := unhide HLen 1 (j + 1)
        have hl2 := unhide HLen 2 (j + 1)
        by_cases cc : c ≤ j
        · have hp := fun p => unhide HLate p j cc
          have kc := fun (W : World) => cut_m x.sets[j].part W
          obtain ⟨q, hq⟩ : ∃ q : Nat, (if x.sets[j].part = 2 then 0 else 512 : Nat) = q := ⟨_, rfl⟩
          have hq5 : q ≤ 512 := by rw [← hq]; split <;> omega
          have hstq : flagTo x.sets c F (j + 1) = flagTo x.sets c F j ||| q := by
            rw [hst, ← hq]
            by_cases k : x.sets[j].part = 2
            · rw [if_neg (fun h => h.2 k), if_pos k]; simp
            · rw [if_pos ⟨cc, k⟩, if_neg k]
          rw [hq] at kc
          have hor2 := i64_or_nat (flagTo x.sets c F j) q hlt (by omega)
          rw [← hstq] at hor2
          have HP := hide hp
          have KC := hide kc
          clear hp kc hq hst hstq hmem hl0 hl1 hl2
          generalize x.sets[j] = s at *
          obtain ⟨sp, sk, sl⟩ := s
          simp only at e0 e1 e2 e3 e4 KC
          go_wp2_with fail
          have hbx : Below wr.heap.size wr (wr.alloc (.cells #[.int .i64 (sp : Nat), .int .i64 sk, .slice a5 sl.length c5] 149)) := (Below.refl _ _).alloc (Nat.le_refl _) _
          have Hbx := hide hbx
          clear hbx
          go_region_with (first | (go_at_call 116; refine (unhide KC _).mono ?_; rintro e w1 ⟨rfl, rfl⟩))
          all_goals
            go_wp2_with fail
            go_roundg (x.sets.length + 1 - (j + 1))
            case measure => omega
            case rel =>
              refine ⟨j + 1, a2, c2, a3, c3, a4, c4, by go_num, by omega, rfl, hide ?_, hide ?_⟩
              · rw [unhide HP 0, unhide HP 1, unhide HP 2]
                exact ((unhide HB).flag _).below (below_drew ((Below.refl _ _).alloc (Nat.le_refl _) _))
              · exact ((below_drew ((Below.refl _ _).alloc (Nat.le_refl _) _)).block N (by rw [size_set]; exact blk_lt (unhide HR))).trans ((blk_set_other (show N ≠ N + 1 by omega) _ _).trans (unhide HR))
        · have hp := fun p => unhide HEarly p j (by omega) cj
          have HP := hide hp
          obtain ⟨hne, hpart, _⟩ := hmem
          have HNe := hide hne
          have hflag : flagTo x.sets c F (j + 1) = flagTo x.sets c F j := by rw [hst, if_neg (fun h => cc h.1)]
          have HFl := hide hflag
          have E3 := hide e3
          clear hp hst hne hflag e3
          obtain ⟨P0, hP0⟩ : ∃ P, pTo x.sets c 0 j = P := ⟨_, rfl⟩
          obtain ⟨P1, hP1⟩ : ∃ P, pTo x.sets c 1 j = P := ⟨_, rfl⟩
          obtain ⟨P2, hP2⟩ : ∃ P, pTo x.sets c 2 j = P := ⟨_, rfl⟩
          obtain ⟨f, hf⟩ : ∃ f, flagTo x.sets c F j = f := ⟨_, rfl⟩
          have hq0 := unhide HP 0
          have hq1 := unhide HP 1
          have hq2 := unhide HP 2
          have hfl2 := unhide HFl
          rw [hf] at HB b1 hfl2 hlt
          rw [hP0] at HB hq0 b3
          rw [hP1] at HB hq1 b4
          rw [hP2] at HB hq2 b5
          have HFl2 := hide hfl2
          have k0 := unhide HLen 0 j
          have k1 := unhide HLen 1 j
          have k2 := unhide HLen 2 j
          rw [hP0] at k0
          rw [hP1] at k1
          rw [hP2] at k2
          have kl : x.sets[j].l.length ≤ (x.sets.flatMap ST.l).length := by
            have := flat_le (List.singleton_sublist.2 (List.getElem_mem cj))
            simpa using this
          clear HP HFl hfl2 hP0 hP1 hP2 hf
          generalize x.sets[j] = s at *
          obtain ⟨sp, sk, sl⟩ := s
          simp only at e0 e1 e2 E3 e4 hpart HNe hq0 hq1 hq2 kl
          have hthree : sp = 0 ∨ sp = 1 ∨ sp = 2 := by omega
          rcases hthree with rfl | rfl | rfl
          · have HQ : Hid (pTo x.sets c 0 (j + 1) = P0 ++ sl ∧ pTo x.sets c 1 (j + 1) = P1 ∧ pTo x.sets c 2 (j + 1) = P2) := ⟨hq0.1 rfl, hq1.2 (by decide), hq2.2 (by decide)⟩
            clear hq0 hq1 hq2
            have hbx : Below wr.heap.size wr (wr.alloc (.cells #[.int .i64 (0 : Nat), .int .i64 sk, .slice a5 sl.length c5] 149)) := (Below.refl _ _).alloc (Nat.le_refl _) _
            have HBx := hide ((unhide HB).below hbx)
            have Hbx := hide hbx
            have hRecx := (unhide E3).below hbx
            have HRecx := hide hRecx
            clear hbx hRecx HB
            go_wp2_with (at_builtin; refine wpList_append_row _ rfl _ _ 30 30 rfl w.heap.size 42 i0 (.agg #[.string ⟨#[]⟩, .int .i64 0, .int .i64 0, .int .i64 0, .string ⟨#[]⟩]) 5 56 Tryz.underlying30 (unhide Hi) (unhide Hz0) (unhide Hz1) (unhide Hz2) rfl (.slice a2 P0.length c2) P0.length (rcI P0) (by rfl) (unhide HBx).o2 (.slice a5 sl.length c5) sl.length (rcI sl) (by rfl) (set_src c5 (unhide HRecx) (unhide HNe)) (by unfold maxLen; omega) (by omega) (by simp; omega) ?_; intro a1 e1 w2 hown2 hgrow2 hat2; have hm2 := blk_kind (unhide HBx).o2 hgrow2 (unhide HBx).m (by decide); obtain ⟨⟨n0, n1, n2, n3, n4, n5⟩, p0, p1, p2, p3, p4, p5⟩ := cells6 hm2; have hl9 := blk_lt hm2)
            go_roundg (x.sets.length + 1 - (j + 1))
            case measure => omega
            case rel =>
              obtain ⟨u0, u1, u2⟩ := unhide HQ
              refine ⟨j + 1, a1, e1, a3, c3, a4, c4, by go_num, by omega, rfl, hide ?_, hide ?_⟩
              · rw [u0, u1, u2, unhide HFl2]
                exact (unhide HBx).app0 hown2 hgrow2 hat2
              · exact (blk_set_other (show N ≠ N + 1 by omega) _ _).trans (blk_kind (unhide HBx).o2 hgrow2 (((unhide Hbx).block N (blk_lt (unhide HR))).trans (unhide HR)) (by decide))
          · have HQ : Hid (pTo x.sets c 0 (j + 1) = P0 ∧ pTo x.sets c 1 (j + 1) = P1 ++ sl ∧ pTo x.sets c 2 (j + 1) = P2) := ⟨hq0.2 (by decide), hq1.1 rfl, hq2.2 (by decide)⟩
            clear hq0 hq1 hq2
            have hbx : Below wr.heap.size wr (wr.alloc (.cells #[.int .i64 (1 : Nat), .int .i64 sk, .slice a5 sl.length c5] 149)) := (Below.refl _ _).alloc (Nat.le_refl _) _
            have HBx := hide ((unhide HB).below hbx)
            have Hbx := hide hbx
            have hRecx := (unhide E3).below hbx
            have HRecx := hide hRecx
            clear hbx hRecx HB
            go_wp2_with (at_builtin; refine wpList_append_row _ rfl _ _ 30 30 rfl w.heap.size 42 i0 (.agg #[.string ⟨#[]⟩, .int .i64 0, .int .i64 0, .int .i64 0, .string ⟨#[]⟩]) 5 56 Tryz.underlying30 (unhide Hi) (unhide Hz0) (unhide Hz1) (unhide Hz2) rfl (.slice a3 P1.length c3) P1.length (rcI P1) (by rfl) (unhide HBx).o3 (.slice a5 sl.length c5) sl.length (rcI sl) (by rfl) (set_src c5 (unhide HRecx) (unhide HNe)) (by unfold maxLen; omega) (by omega) (by simp; omega) ?_; intro a1 e1 w2 hown2 hgrow2 hat2; have hm2 := blk_kind (unhide HBx).o3 hgrow2 (unhide HBx).m (by decide); obtain ⟨⟨n0, n1, n2, n3, n4, n5⟩, p0, p1, p2, p3, p4, p5⟩ := cells6 hm2; have hl9 := blk_lt hm2)
            go_roundg (x.sets.length + 1 - (j + 1))
            case measure => omega
            case rel =>
              obtain ⟨u0, u1, u2⟩ := unhide HQ
              refine ⟨j + 1, a2, c2, a1, e1, a4, c4, by go_num, by omega, rfl, hide ?_, hide ?_⟩
              · rw [u0, u1, u2, unhide HFl2]
                exact (unhide HBx).app1 hown2 hgrow2 hat2
              · exact (blk_set_other (show N ≠ N + 1 by omega) _ _).trans (blk_kind (unhide HBx).o3 hgrow2 (((unhide Hbx).block N (blk_lt (unhide HR))).trans (unhide HR)) (by decide))
          · have HQ : Hid (pTo x.sets c 0 (j + 1) = P0 ∧ pTo x.sets c 1 (j + 1) = P1 ∧ pTo x.sets c 2 (j + 1) = P2 ++ sl) := ⟨hq0.2 (by decide), hq1.2 (by decide), hq2.1 rfl⟩
            clear hq0 hq1 hq2
            have hbx : Below wr.heap.size wr (wr.alloc (.cells #[.int .i64 (2 : Nat), .int .i64 sk, .slice a5 sl.length c5] 149)) := (Below.refl _ _).alloc (Nat.le_refl _) _
            have HBx := hide ((unhide HB).below hbx)
            have Hbx := hide hbx
            have hRecx := (unhide E3).below hbx
            have HRecx := hide hRecx
            clear hbx hRecx HB
            go_wp2_with (at_builtin; refine wpList_append_row _ rfl _ _ 30 30 rfl w.heap.size 42 i0 (.agg #[.string ⟨#[]⟩, .int .i64 0, .int .i64 0, .int .i64 0, .string ⟨#[]⟩]) 5 56 Tryz.underlying30 (unhide Hi) (unhide Hz0) (unhide Hz1) (unhide Hz2) rfl (.slice a4 P2.length c4) P2.length (rcI P2) (by rfl) (unhide HBx).o4 (.slice a5 sl.length c5) sl.length (rcI sl) (by rfl) (set_src c5 (unhide HRecx) (unhide HNe)) (by unfold maxLen; omega) (by omega) (by simp; omega) ?_; intro a1 e1 w2 hown2 hgrow2 hat2; have hm2 := blk_kind (unhide HBx).o4 hgrow2 (unhide HBx).m (by decide); obtain ⟨⟨n0, n1, n2, n3, n4, n5⟩, p0, p1, p2, p3, p4, p5⟩ := cells6 hm2; have hl9 := blk_lt hm2)
            go_roundg (x.sets.length + 1 - (j + 1))
            case measure => omega
            case rel =>
              obtain ⟨u0, u1, u2⟩ := unhide HQ
              refine ⟨j + 1, a2, c2, a3, c3, a1, e1, by go_num, by omega, rfl, hide ?_, hide ?_⟩
              · rw [u0, u1, u2, unhide HFl2]
                exact (unhide HBx).app2 hown2 hgrow2 hat2
              · exact (blk_set_other (show N ≠ N + 1 by omega) _ _).trans (blk_kind (unhide HBx).o4 hgrow2 (((unhide Hbx).block N (blk_lt (unhide HR))).trans (unhide HR)) (by decide))
      · have ej : j = x.sets.length := by omega
        subst ej
        clear hs1'
        have HOp : Hid ((x.opt = false → optsP x = []) ∧ (x.opt = true → optsP x = [optR x.told])) := ⟨fun h => by unfold optsP; rw [h]; rfl, fun h => by unfold optsP; rw [h]; rfl⟩
        cases ho : x.opt with
        | false =>
          rw [ho] at x4
          have hop := (unhide HOp).1 ho
          have HOp2 := hide hop
          clear hop HOp ho
          obtain rfl := unhide HVq
          obtain ⟨⟨r0, r1, r2, r3, r4, r5⟩, s0, s1, s2, s3, s4, s5⟩ := cells6 (unhide HR)
          have hltR := blk_lt (unhide HR)
          have hres := msgOut_of (c := c) (unhide HQ1) hq2 (unhide HQ3) (unhide HS2) (unhide HB) (by rw [unhide HFe]) rfl rfl (by rw [unhide HOp2, List.append_nil]) (unhide HR) (by omega)
          have hcell := store6 (unhide HR) (.int .i64 (x.id : Nat)) (.int .i64 ((flagTo x.sets c F x.sets.length : Nat) : Int)) (.slice aq x.q.length cq) (.slice a2 (pTo x.sets c 0 x.sets.length).length c2) (.slice a3 (pTo x.sets c 1 x.sets.length).length c3) (.slice a4 (pTo x.sets c 2 x.sets.length).length c4)
          have HRes := hide hres
          have HCell := hide hcell
          clear hres hcell HLt HStp HLate HEarly HLen HP0
          go_wp2_with fail
          obtain ⟨⟨g0, g1, g2, g3, g4, g5⟩, _⟩ := cells6 (unhide HCell)
          refine bodyPost_ret (v := .agg #[.int .i64 (x.id : Nat), .int .i64 ((flagTo x.sets c F x.sets.length : Nat) : Int), .slice aq x.q.length cq, .slice a2 (pTo x.sets c 0 x.sets.length).length c2, .slice a3 (pTo x.sets c 1 x.sets.length).length c3, .slice a4 (pTo x.sets c 2 x.sets.length).length c4]) (by simp [results, Tryz.results81, go_sem, g0, g1, g2, g3, g4, g5]) rfl ?_
          exact unhide HRes
        | true =>
          rw [ho] at x4
          have hop := (unhide HOp).2 ho
          have HOp2 := hide hop
          have ko := opt_m X x wr ((unhide HRp).below (unhide HB).b)
          have KO := hide ko
          have hk2 := unhide HLen 2 x.sets.length
          clear hop HOp ho ko
          obtain rfl := unhide HVq
          clear HLt HStp HLate HEarly HLen HP0
          go_wp2_with fail
          refine (unhide KO).mono ?_
          rintro e w1 ⟨rfl, hb1⟩
          have hbo : Below w1.heap.size w1 ((w1.alloc (.cells #[.string ⟨#[0]⟩, .int .i64 41, .int .i64 4096, .int .i64 ((x.told : Int) / 16 * 16777216), .string ⟨#[]⟩] 42)).alloc (.cells #[.string ⟨#[0]⟩, .int .i64 41, .int .i64 4096, .int .i64 ((x.told : Int) / 16 * 16777216), .string ⟨#[]⟩] 42)) := ((Below.refl _ _).alloc (Nat.le_refl _) _).alloc (by simp) _
          have hB1 := (unhide HB).below hb1
          have hB3 := hB1.below hbo
          have hR1 := (hb1.block N (blk_lt (unhide HR))).trans (unhide HR)
          have hR3 := (hbo.block N (blk_lt hR1)).trans hR1
          obtain ⟨⟨t0, t1, t2, t3, t4, t5⟩, v0, v1, v2, v3, v4, v5⟩ := cells6 hB1.m
          have hltM1 := blk_lt hB1.m
          have HB3 := hide hB3
          have HR3 := hide hR3
          have hor9 : ((x.told / 16 * 16777216 : Nat) : Int) = (x.told : Int) / 16 * 16777216 := by omega
          have Hor9 := hide hor9
          clear hbo hB1 hB3 hR1 hR3 hb1 b0 b1 b2 b3 b4 b5 z0 z1 z2 z3 z4 z5 x0 x1 x2 x3 x4 x5 x6 y0 y1 y2 y3 y4 y5 y6 hor9 HB
          generalize hQ2 : pTo x.sets c 2 x.sets.length = Q2 at *
          have HQ2 := hide hQ2
          clear hQ2
          go_wp2_with (at_builtin; refine wpList_append_row _ rfl _ _ 30 30 rfl w.heap.size 42 i0 (.agg #[.string ⟨#[]⟩, .int .i64 0, .int .i64 0, .int .i64 0, .string ⟨#[]⟩]) 5 56 Tryz.underlying30 (unhide Hi) (unhide Hz0) (unhide Hz1) (unhide Hz2) rfl (.slice a4 Q2.length c4) Q2.length (rcI Q2) (by rfl) (unhide HB3).o4 (.slice (some ⟨w1.heap.size + 1, 0, none⟩) 1 1) 1 [.string ⟨#[0]⟩, .int .i64 41, .int .i64 4096, .int .i64 ((x.told : Int) / 16 * 16777216), .string ⟨#[]⟩] (by rfl) (Src.ofSlice _ Tryz.underlying30 ⟨w1.heap.size + 1, 0, none⟩ 1 1 _ rfl (cell_five_new _ _ _ _ _ _ _ _ (by simp)) one5) (by unfold maxLen; omega) (by omega) (by simp; omega) ?_; intro a1 e1 w2 hown2 hgrow2 hat2; have hm2 := blk_kind (unhide HB3).o4 hgrow2 (unhide HB3).m (by decide); obtain ⟨⟨n0, n1, n2, n3, n4, n5⟩, p0, p1, p2, p3, p4, p5⟩ := cells6 hm2; have hl9 := blk_lt hm2; have hR9 := blk_kind (unhide HB3).o4 hgrow2 (unhide HR3) (by decide); obtain ⟨⟨r0, r1, r2, r3, r4, r5⟩, s0, s1, s2, s3, s4, s5⟩ := cells6 hR9; have hlr := blk_lt hR9)
          have eo : rcI [optR x.told] = [.string ⟨#[0]⟩, .int .i64 41, .int .i64 4096, .int .i64 ((x.told : Int) / 16 * 16777216), .string ⟨#[]⟩] := by
            rw [← unhide Hor9]
            rfl
          rw [← eo] at hown2
          have hMB9 := (unhide HB3).app2 (l := [optR x.told]) (a := a1) (c := e1) hown2 hgrow2 hat2
          have hR8 := (blk_set_other (w := w2) (show N ≠ N + 1 by omega) 5 (.slice a1 (Q2.length + 1) e1)).trans hR9
          have hres := msgOut_of (c := c) (unhide HQ1) hq2 (unhide HQ3) (unhide HS2) hMB9 (by rw [unhide HFe]) rfl rfl (by rw [unhide HOp2, unhide HQ2]) hR8 (by omega)
          have el : (Q2 ++ [optR x.told]).length = Q2.length + 1 := by simp
          rw [el] at hres
          have hcell := store6 hR8 (.int .i64 (x.id : Nat)) (.int .i64 ((flagTo x.sets c F x.sets.length : Nat) : Int)) (.slice aq x.q.length cq) (.slice a2 (pTo x.sets c 0 x.sets.length).length c2) (.slice a3 (pTo x.sets c 1 x.sets.length).length c3) (.slice a1 (Q2.length + 1) e1)
          obtain ⟨⟨g0, g1, g2, g3, g4, g5⟩, _⟩ := cells6 hcell
          refine bodyPost_ret (v := .agg #[.int .i64 (x.id : Nat), .int .i64 ((flagTo x.sets c F x.sets.length : Nat) : Int), .slice aq x.q.length cq, .slice a2 (pTo x.sets c 0 x.sets.length).length c2, .slice a3 (pTo x.sets c 1 x.sets.length).length c3, .slice a1 (Q2.length + 1) e1]) (by simp [results, Tryz.results81, go_sem, g0, g1, g2, g3, g4, g5]) rfl ?_
          exact hres

end Go.Proofs.YtdhobdmhnocbgaaGreat

namespace Go.Proofs.YtdhobdmhnocbgaaGreat
open Go.RowKit Zr

set_option maxRecDepth 100000 in
set_option maxHeartbeats 2000000 in
theorem fits_m (X : Nat) (x : Rep) (c : Nat) (w : World) (h : Rp w X x) (hc : c ≤ 134217720) :
    Calls Tryz.prog 115 #[.pointer (some ⟨X, 0, none⟩), .int .i64 (c : Nat)] w fun e w' => BoolIs (Fit x c) e ∧ Below w.heap.size w w' := by
  have km := message_m X x c w h hc
  have KM := hide km
  have HRp := hide h
  have HFt : Hid (Fit x c ↔ msgOk (repMsg x c) ∧ (writ (repMsg x c).nat).1.size ≤ 65535 ∧ (writ (repMsg x c).nat).1.size ≤ x.lim) := Iff.rfl
  have HSer : Hid (∀ s e, SerIs (repMsg x c) s e → (e ≠ 0 ∧ ¬ Fit x c) ∨ (e = 0 ∧ s.size ≤ 65535 ∧ (s.size ≤ x.lim ↔ Fit x c))) := by
    intro s e hs
    rcases hs with ⟨h1, h2, h3⟩ | ⟨h1, h2, h3, h4⟩ | ⟨h1, h2, h3, h4⟩
    · exact .inl ⟨by omega, fun k => h1 k.1⟩
    · exact .inl ⟨by omega, fun k => by have := k.2.1; omega⟩
    · subst h3
      exact .inr ⟨h4, by omega, ⟨fun k => ⟨h1, by omega, k⟩, fun k => k.2.2⟩⟩
  have ks := fun (W : World) (v : Value) (hm : MsgAt W W.heap.size v (repMsg x c)) => wireSerialize_any (repMsg x c) v W hm
  have KS := hide ks
  clear km h ks HFt
  generalize Fit x c = FT at *
  generalize repMsg x c = m at *
  go_enter Tryz.func115, Tryz.ntmps115
  go_wp2_with fail
  refine (unhide KM).mono ?_
  rintro e w1 ⟨v, rfl, hm1, hb1⟩
  have hm2 := fun o => (hm1.below (show Below w1.heap.size w1 (w1.alloc o) from (Below.refl _ _).alloc (Nat.le_refl _) _)).mono (show w1.heap.size ≤ (w1.alloc o).heap.size by simp)
  have HM2 := hide hm2
  have HB1 := hide hb1
  have HRp1 := hide ((unhide HRp).below hb1)
  obtain ⟨a1, c1, a2, c2, a3, c3, a4, c4, rfl, _⟩ := hm1
  clear hm2 hb1 KM HRp
  go_wp2_with fail
  refine (unhide KS _ _ (unhide HM2 _)).mono ?_
  rintro e w2 ⟨⟨s, er, rfl, hs⟩, hb2⟩
  have hb12 := ((Below.refl w1.heap.size w1).alloc (Nat.le_refl _) (.cells #[.int .i64 m.id, .int .i64 m.flags, .slice a1 m.q.length c1, .slice a2 m.a.length c2, .slice a3 m.u.length c3, .slice a4 m.x.length c4] 32)).trans (hb2.mono (by simp))
  have hRp2 := (unhide HRp1).below hb12
  obtain ⟨aq, cq, a, cc, hX, _, _, _, _, _, _, _, _, _, hlm⟩ := hRp2
  obtain ⟨⟨x0, x1, x2, x3, x4, x5, x6⟩, y0, y1, y2, y3, y4, y5, y6⟩ := an_cells7 hX
  have hlt := blk_lt hX
  have HB2 := hide ((unhide HB1).trans (hb12.mono (unhide HB1).size))
  have hser := unhide HSer s er hs
  clear hX hb12 hb2 hs HM2 HB1 HSer
  rcases hser with ⟨h1, h2⟩ | ⟨h1, h2, h3⟩
  · have f1 : (er == 0) = false := beq_eq_false_iff_ne.2 h1
    have H2 := hide h2
    clear h1 h2
    go_wp2_with fail
    go_ret
    exact ⟨⟨_, rfl, ⟨fun k => by simp at k, fun k => absurd k (unhide H2)⟩⟩, unhide HB2⟩
  · subst h1
    have H3 := hide h3
    clear h3
    by_cases k : s.size ≤ x.lim
    · have f2 : decide ((s.size : Int) ≤ (x.lim : Int)) = true := decide_eq_true (by omega)
      have H4 := hide ((unhide H3).1 k)
      go_wp2_with fail
      go_ret
      exact ⟨⟨_, rfl, ⟨fun _ => unhide H4, fun _ => by first | rfl | simp; omega⟩⟩, unhide HB2⟩
    · have f2 : decide ((s.size : Int) ≤ (x.lim : Int)) = false := decide_eq_false (by omega)
      have H4 := hide (fun q => k ((unhide H3).2 q))
      go_wp2_with fail
      go_ret
      exact ⟨⟨_, rfl, ⟨fun q => by first | (simp at q; done) | (simp at q; omega), fun q => absurd q (unhide H4)⟩⟩, unhide HB2⟩

/-- How many sets a reply has. -/
def CountOut (w : World) (x : Rep) (e : Ending) (w' : World) : Prop := ∃ c : Nat, e = .returned (.int .i64 c) ∧ Fitting x c ∧ Below w.heap.size w w'

set_option maxRecDepth 100000 in
set_option maxHeartbeats 2000000 in
theorem fitting_m (X : Nat) (x : Rep) (w : World) (h : Rp w X x) :
    Calls Tryz.prog 80 #[.pointer (some ⟨X, 0, none⟩)] w fun e w' => CountOut w x e w' := by
  have kf := fun (W : World) (c : Nat) (h : Rp W X x) (hc : c ≤ 134217720) => fits_m X x c W h hc
  have KF := hide kf
  have HRp := hide h
  obtain ⟨aq, cq, a, cc, hX, _, _, _, _, _, hl, _⟩ := h
  obtain ⟨⟨x0, x1, x2, x3, x4, x5, x6⟩, y0, y1, y2, y3, y4, y5, y6⟩ := an_cells7 hX
  have hlt := blk_lt hX
  have HDef : Hid (∀ c, c ≤ x.sets.length → (c = 0 ∨ Fit x c) → (c = x.sets.length ∨ ¬ Fit x (c + 1)) → Fitting x c) := fun c h1 h2 h3 => ⟨h1, h2, h3⟩
  clear kf hX
  go_enter Tryz.func80, Tryz.ntmps80
  go_wp2_with fail
  go_loopg [3, 4] x.sets.length (fun g vl vm w' => ∃ (p q : Nat), vl = .int .i64 p ∧ vm = .int .i64 q ∧ p ≤ q ∧ q ≤ x.sets.length ∧ g = q - p ∧ Hid (p = 0 ∨ Fit x p) ∧ Hid (q = x.sets.length ∨ ¬ Fit x (q + 1)) ∧ Hid (Below w.heap.size w w'))
  case atStart => exact ⟨0, x.sets.length, rfl, rfl, Nat.zero_le _, Nat.le_refl _, rfl, hide (.inl rfl), hide (.inl rfl), hide (Below.refl _ _)⟩
  case round =>
    obtain ⟨p, q, rfl, rfl, hpq, hqn, rfl, HP, HQ, HB⟩ := hrel
    by_cases cpq : p < q
    · obtain ⟨m, hm⟩ : ∃ m : Nat, m = q - (q - p) / 2 := ⟨_, rfl⟩
      have hm1 : p < m := by omega
      have hm2 : m ≤ q := by omega
      have hmi : (q : Int) - ((q : Int) - (p : Int)) / 2 = (m : Int) := by omega
      have hmt : ((q : Int) - (p : Int)).tdiv 2 = ((q : Int) - (p : Int)) / 2 := Int.tdiv_eq_ediv_of_nonneg (by omega)
      have k1 := unhide KF wr m ((unhide HRp).below (unhide HB)) (by omega)
      have K1 := hide k1
      clear k1 hm
      go_wp2_with fail
      refine (unhide K1).mono ?_
      rintro e w1 ⟨⟨b, rfl, hb⟩, hb1⟩
      have HB1 := hide ((unhide HB).trans (hb1.mono (unhide HB).size))
      have Hb := hide hb
      clear hb hb1
      cases b with
      | true =>
        have H1 := hide ((unhide Hb).1 rfl)
        go_wp2_with fail
        go_roundg (q - m)
        case measure => omega
        case rel => exact ⟨m, q, rfl, rfl, hm2, hqn, rfl, hide (.inr (unhide H1)), HQ, HB1⟩
      | false =>
        have H1 : Hid (¬ Fit x m) := hide fun k => absurd ((unhide Hb).2 k) (by simp)
        go_wp2_with fail
        go_roundg (m - 1 - p)
        case measure => omega
        case rel => exact ⟨p, m - 1, rfl, by go_num, by omega, by omega, rfl, HP, hide (.inr (by rw [show m - 1 + 1 = m by omega]; exact unhide H1)), HB1⟩
    · have e : p = q := by omega
      subst e
      go_wp2_with fail
      go_ret
      exact ⟨p, rfl, unhide HDef p hqn (unhide HP) (unhide HQ), unhide HB⟩

/-- The bytes of a reply. -/
def BytesOut (w : World) (x : Rep) (e : Ending) (w' : World) : Prop := ∃ s, e = .returned (.string s) ∧ (∃ c er, Fitting x c ∧ SerIs (repMsg x c) s er) ∧ Below w.heap.size w w'

set_option maxRecDepth 100000 in
set_option maxHeartbeats 2000000 in
theorem bytes_m (X : Nat) (x : Rep) (w : World) (h : Rp w X x) :
    Calls Tryz.prog 42 #[.pointer (some ⟨X, 0, none⟩)] w fun e w' => BytesOut w x e w' := by
  have kf := fitting_m X x w h
  have KF := hide kf
  have HRp := hide h
  obtain ⟨aq, cq, a, cc, hX, _, _, _, _, _, hl, _⟩ := h
  have hlt := blk_lt hX
  clear kf hX
  go_enter Tryz.func42, Tryz.ntmps42
  go_wp2_with fail
  refine (unhide KF).mono ?_
  rintro e w0 ⟨c, rfl, hfit, hb0⟩
  have HFit := hide hfit
  have hc := hfit.1
  have HRp0 := hide ((unhide HRp).below hb0)
  have HB0 := hide hb0
  have km := message_m X x c w0 (unhide HRp0) (by omega)
  have KM := hide km
  have HRes : Hid (∀ s er, SerIs (repMsg x c) s er → ∃ c er, Fitting x c ∧ SerIs (repMsg x c) s er) := hide fun s er h => ⟨c, er, unhide HFit, h⟩
  have HSer : Hid (∀ s e, SerIs (repMsg x c) s e → (e ≠ 0 ∧ s = ⟨#[]⟩) ∨ e = 0) := by
    intro s e hs
    rcases hs with ⟨h1, h2, h3⟩ | ⟨h1, h2, h3, h4⟩ | ⟨h1, h2, h3, h4⟩
    · exact .inl ⟨by omega, h2⟩
    · exact .inl ⟨by omega, h3⟩
    · exact .inr h4
  have ks := fun (W : World) (v : Value) (hm : MsgAt W W.heap.size v (repMsg x c)) => wireSerialize_any (repMsg x c) v W hm
  have KS := hide ks
  clear km ks hfit hb0 KF HFit HRp HRp0
  generalize repMsg x c = m at *
  go_wp2_with fail
  refine (unhide KM).mono ?_
  rintro e w1 ⟨v, rfl, hm1, hb1⟩
  have hm2 := fun o => (hm1.below (show Below w1.heap.size w1 (w1.alloc o) from (Below.refl _ _).alloc (Nat.le_refl _) _)).mono (show w1.heap.size ≤ (w1.alloc o).heap.size by simp)
  have HM2 := hide hm2
  have HB1 := hide ((unhide HB0).trans (hb1.mono (unhide HB0).size))
  obtain ⟨a1, c1, a2, c2, a3, c3, a4, c4, rfl, _⟩ := hm1
  clear hm2 hb1 KM
  go_wp2_with fail
  refine (unhide KS _ _ (unhide HM2 _)).mono ?_
  rintro e w2 ⟨⟨s, er, rfl, hs⟩, hb2⟩
  have hb12 := ((Below.refl w1.heap.size w1).alloc (Nat.le_refl _) (.cells #[.int .i64 m.id, .int .i64 m.flags, .slice a1 m.q.length c1, .slice a2 m.a.length c2, .slice a3 m.u.length c3, .slice a4 m.x.length c4] 32)).trans (hb2.mono (by simp))
  have HB2 := hide ((unhide HB1).trans (hb12.mono (unhide HB1).size))
  have hser := unhide HSer s er hs
  have HS := hide (unhide HRes s er hs)
  clear hb12 hb2 hs HM2 HB1 HSer
  rcases hser with ⟨h1, h2⟩ | h1
  · subst h2
    have f1 : (er != 0) = true := by rw [bne_iff_ne]; exact h1
    clear h1
    go_wp2_with fail
    go_ret
    exact ⟨_, rfl, unhide HS, unhide HB2⟩
  · subst h1
    go_wp2_with fail
    go_ret
    exact ⟨_, rfl, unhide HS, unhide HB2⟩

end Go.Proofs.YtdhobdmhnocbgaaGreat

namespace Go.Proofs.YtdhobdmhnocbgaaGreat
open Go.RowKit Zr

set_option maxRecDepth 100000 in
theorem limit_m (cls : Nat) (stream : Bool) (w : World) : Calls Tryz.prog 77 #[.int .i64 (cls : Nat), .bool stream] w fun e w' => e = .returned (.int .i64 (limP cls stream : Nat)) ∧ w' = w := by
  cases stream with
  | true =>
    have e : limP cls true = 65535 := rfl
    rw [e]
    go_enter Tryz.func77, Tryz.ntmps77
    go_wp2_with fail
    go_ret
    exact ⟨rfl, rfl⟩
  | false =>
    by_cases c1 : cls < 512
    · have e : limP cls false = 512 := by unfold limP; simp [c1]
      rw [e]
      go_enter Tryz.func77, Tryz.ntmps77
      go_wp2_with fail
      go_ret
      exact ⟨rfl, rfl⟩
    · by_cases c2 : 4096 < cls
      · have e : limP cls false = 4096 := by unfold limP; simp [c1, c2]
        rw [e]
        go_enter Tryz.func77, Tryz.ntmps77
        go_wp2_with fail
        go_ret
        exact ⟨rfl, rfl⟩
      · have e : limP cls false = cls := by unfold limP; simp [c1, c2]
        rw [e]
        go_enter Tryz.func77, Tryz.ntmps77
        go_wp2_with fail
        go_ret
        exact ⟨rfl, rfl⟩

/-- The zero record. -/
def zeroR : RI := ⟨⟨#[]⟩, 0, 0, 0, ⟨#[]⟩⟩
/-- What options hands back. -/
def OptOut (w : World) (l : List RI) (e : Ending) (w' : World) : Prop :=
  ∃ r : RI, e = .returned (.tuple #[.agg #[.string r.name, .int .i64 r.ty, .int .i64 r.cl, .int .i64 r.ttl, .string r.data], .bool (optOfP l).isSome]) ∧ r = (optOfP l).getD zeroR ∧ Below w.heap.size w w'

set_option maxRecDepth 100000 in
set_option maxHeartbeats 2000000 in
theorem options_m (l : List RI) (a : Option Addr) (c : Nat) (w : World) (hrow : RowAt w w.heap.size a (rcI l)) (hl : l.length ≤ 134217728) :
    Calls Tryz.prog 76 #[.slice a l.length c] w fun e w' => OptOut w l e w' := by
  have HY : Hid (∀ j (hj : j < l.length), (∀ m (hm : m < l.length), m < j → l[m].ty ≠ 41) → l[j].ty = 41 → optOfP l = some l[j]) := fun j hj k e => by
    unfold optOfP
    rw [List.find?_eq_some_iff_getElem]
    exact ⟨decide_eq_true e, j, hj, rfl, fun m hm => by simpa using k m (by omega) hm⟩
  have HNo : Hid ((∀ m (hm : m < l.length), l[m].ty ≠ 41) → optOfP l = none) := fun k => by
    unfold optOfP
    rw [List.find?_eq_none]
    intro x hx
    obtain ⟨i, hi, rfl⟩ := List.mem_iff_getElem.1 hx
    simpa using k i hi
  have hB : Below w.heap.size w (w.alloc (.cells #[.string ⟨#[]⟩, .int .i64 0, .int .i64 0, .int .i64 0, .string ⟨#[]⟩] 42)) := (Below.refl _ _).alloc (Nat.le_refl _) _
  have hA := heap_alloc_new w (.cells #[.string ⟨#[]⟩, .int .i64 0, .int .i64 0, .int .i64 0, .string ⟨#[]⟩] 42)
  have HRow := hide (hrow.below hB)
  have HB := hide hB
  have HA := hide hA
  have hN : w.heap.size = w.heap.size := rfl
  clear hrow hB hA hN
  go_enter Tryz.func76, Tryz.ntmps76
  go_wp2_with fail
  generalize hW : w.alloc (.cells #[.string ⟨#[]⟩, .int .i64 0, .int .i64 0, .int .i64 0, .string ⟨#[]⟩] 42) = W at *
  clear hW
  go_loop [4] (fun i => ∃ j : Nat, j ≤ l.length ∧ i = .int .i64 j ∧ Hid (∀ m (hm : m < l.length), m < j → l[m].ty ≠ 41)) (fun i => l.length - (intOf i).toNat)
  case atStart => exact ⟨0, Nat.zero_le _, rfl, hide fun m _ hm => by omega⟩
  case round =>
    obtain ⟨j, hj, rfl, HL⟩ := hrel
    by_cases cj : j < l.length
    · obtain ⟨b, o, rfl, hb, x0, x1, x2, x3, x4⟩ := row_r (unhide HRow) j cj
      have hy := unhide HY j cj (unhide HL)
      have HNx : Hid (l[j].ty ≠ 41 → ∀ m (hm : m < l.length), m < j + 1 → l[m].ty ≠ 41) := hide fun h1 m hm hm2 => by
        rcases Nat.lt_or_ge m j with k | k
        · exact unhide HL m hm k
        · have : m = j := by omega
          subst this
          exact h1
      clear HL HY
      generalize l[j] = s at *
      obtain ⟨nm, ty, kl, ttl, dt⟩ := s
      simp only at x0 x1 x2 x3 x4 hy HNx
      by_cases ck : ty = 41
      · have HR := hide (hy ck)
        subst ck
        have hbN : b ≠ w.heap.size := by omega
        obtain ⟨⟨b0, b1, b2, b3, b4⟩, y0, y1, y2, y3, y4⟩ := cells5 (unhide HA)
        have hltA := blk_lt (unhide HA)
        have hf := store5 (unhide HA) (.string nm) (.int .i64 41) (.int .i64 kl) (.int .i64 ttl) (.string dt)
        have HFx := hide hf
        clear hy HNx hf
        go_wp2_with fail
        obtain ⟨⟨g0, g1, g2, g3, g4⟩, _⟩ := cells5 (unhide HFx)
        refine bodyPost_ret (v := .tuple #[.agg #[.string nm, .int .i64 41, .int .i64 kl, .int .i64 ttl, .string dt], .bool true]) (by simp [results, Tryz.results76, go_sem, g0, g1, g2, g3, g4]) rfl ?_
        exact ⟨⟨nm, 41, kl, ttl, dt⟩, by rw [unhide HR]; rfl, by rw [unhide HR]; rfl, (((((unhide HB).setCell (Nat.le_refl _) _).setCell (Nat.le_refl _) _).setCell (Nat.le_refl _) _).setCell (Nat.le_refl _) _).setCell (Nat.le_refl _) _⟩
      · have f2 : (ty == 41) = false := beq_eq_false_iff_ne.2 ck
        have HN2 := hide (unhide HNx ck)
        clear ck hy HNx
        go_wp2_with fail
        go_round
        case rel => exact ⟨j + 1, by omega, by go_num, HN2⟩
        case measure => simp [intOf]; omega
    · have ej : j = l.length := by omega
      subst ej
      have HR := hide (unhide HNo fun m hm => unhide HL m hm hm)
      clear HNo HY HL
      obtain ⟨⟨b0, b1, b2, b3, b4⟩, y0, y1, y2, y3, y4⟩ := cells5 (unhide HA)
      have hltA := blk_lt (unhide HA)
      have HFx := hide (store5 (unhide HA) (.string ⟨#[]⟩) (.int .i64 0) (.int .i64 0) (.int .i64 0) (.string ⟨#[]⟩))
      go_wp2_with fail
      obtain ⟨⟨g0, g1, g2, g3, g4⟩, _⟩ := cells5 (unhide HFx)
      refine bodyPost_ret (v := .tuple #[.agg #[.string ⟨#[]⟩, .int .i64 0, .int .i64 0, .int .i64 0, .string ⟨#[]⟩], .bool false]) (by simp [results, Tryz.results76, go_sem, g0, g1, g2, g3, g4]) rfl ?_
      exact ⟨zeroR, by rw [unhide HR]; rfl, by rw [unhide HR]; rfl, (((((unhide HB).setCell (Nat.le_refl _) _).setCell (Nat.le_refl _) _).setCell (Nat.le_refl _) _).setCell (Nat.le_refl _) _).setCell (Nat.le_refl _) _⟩

set_option maxRecDepth 100000 in
set_option maxHeartbeats 2000000 in
theorem refusal_m (flags life : Nat) (q : QI) (w : World) (hf : flags < 65536) (hl : life ≤ 4294967295) (hq : q.name.size ≤ 65535) :
    Calls Tryz.prog 78 #[.int .i64 (flags : Nat), .int .i64 (life : Nat), .agg #[.string q.name, .int .i64 q.ty, .int .i64 q.cl]] w fun e w' => e = .returned (.int .i64 (refusalP flags life q : Nat)) ∧ Below w.heap.size w w' := by
  have hand : bits .and .i64 (flags : Int) 30720 = ((flags &&& 30720 : Nat) : Int) := by
    have := i64_and_nat flags 30720 hf (by decide)
    simpa using this
  have ks := fun (W : World) => small_m q.name W (by omega)
  have hsz := smallP_size q.name
  have kw := fun (W : World) => within_m (smallP q.name) originB W (by omega)
  have KS := hide ks
  have KW := hide kw
  have hd1 : ((life : Int).tdiv 65536) = ((life / 65536 : Nat) : Int) := by rw [Int.tdiv_eq_ediv_of_nonneg (by omega)]; omega
  have hd2 : (((life / 65536 : Nat) : Int)).tmod 256 = ((life / 65536 % 256 : Nat) : Int) := by rw [Int.tmod_eq_emod_of_nonneg (by omega)]; omega
  have HR : Hid (refusalP flags life q = if flags &&& 30720 ≠ 0 then 4 else if life / 65536 % 256 ≠ 0 then 16 else if q.cl ≠ 1 ∨ withinAt (smallP q.name) originB 0 = false then 5 else 0) := rfl
  clear ks kw
  generalize refusalP flags life q = R at *
  obtain ⟨nm, ty, cl⟩ := q
  simp only at *
  have hbx : Below w.heap.size w (w.alloc (.cells #[.string nm, .int .i64 ty, .int .i64 cl] 60)) := (Below.refl _ _).alloc (Nat.le_refl _) _
  have HBx := hide hbx
  clear hbx
  by_cases c1 : flags &&& 30720 ≠ 0
  · have hR := unhide HR
    rw [if_pos c1] at hR
    subst hR
    have f1 : (((flags &&& 30720 : Nat) : Int) != 0) = true := by rw [bne_iff_ne]; omega
    clear c1 HR
    generalize flags &&& 30720 = fa at *
    go_enter Tryz.func78, Tryz.ntmps78
    go_wp2_with fail
    go_ret
    exact ⟨rfl, unhide HBx⟩
  · have hR := unhide HR
    rw [if_neg c1] at hR
    have f1 : (((flags &&& 30720 : Nat) : Int) != 0) = false := by rw [bne_eq_false_iff_eq]; omega
    clear c1 HR
    generalize flags &&& 30720 = fa at *
    by_cases c2 : life / 65536 % 256 ≠ 0
    · rw [if_pos c2] at hR
      subst hR
      have f2 : (((life / 65536 % 256 : Nat) : Int) != 0) = true := by rw [bne_iff_ne]; omega
      have f3 : ((life : Int) / 65536 % 256 != 0) = true := by rw [bne_iff_ne]; omega
      clear c2
      go_enter Tryz.func78, Tryz.ntmps78
      go_wp2_with fail
      go_ret
      exact ⟨rfl, unhide HBx⟩
    · rw [if_neg c2] at hR
      have f2 : (((life / 65536 % 256 : Nat) : Int) != 0) = false := by rw [bne_eq_false_iff_eq]; omega
      have f3 : ((life : Int) / 65536 % 256 != 0) = false := by rw [bne_eq_false_iff_eq]; omega
      clear c2
      have HR2 := hide hR
      clear hR
      go_enter Tryz.func78, Tryz.ntmps78
      go_wp2_with fail
      refine (unhide KS _).mono ?_
      rintro e w1 ⟨rfl, hb1⟩
      have hq1 := (hb1.block w.heap.size (by simp)).trans (heap_alloc_new w (.cells #[.string nm, .int .i64 ty, .int .i64 cl] 60))
      obtain ⟨z0, z1, z2, _⟩ := cells3 hq1
      have hlt := blk_lt hq1
      have HB1 := hide ((unhide HBx).trans (hb1.mono (unhide HBx).size))
      have kw1 := unhide KW w1
      clear hb1 hq1 KS KW
      generalize smallP nm = sn at *
      generalize withinAt sn originB 0 = wi at *
      have KW1 := hide kw1
      clear kw1
      by_cases c3 : cl = 1
      · subst c3
        have f4 : ((1 : Int) != 1) = false := by decide
        cases wi with
        | true =>
          have hR := unhide HR2
          rw [if_neg (by simp)] at hR
          subst hR
          clear HR2
          go_wp2_with fail
          refine (unhide KW1).mono ?_
          rintro e w' ⟨rfl, rfl⟩
          go_wp2_with fail
          go_ret
          exact ⟨rfl, unhide HB1⟩
        | false =>
          have hR := unhide HR2
          rw [if_pos (.inr rfl)] at hR
          subst hR
          clear HR2
          go_wp2_with fail
          refine (unhide KW1).mono ?_
          rintro e w' ⟨rfl, rfl⟩
          go_wp2_with fail
          go_ret
          exact ⟨rfl, unhide HB1⟩
      · have f4 : (cl != 1) = true := by rw [bne_iff_ne]; exact c3
        have hR := unhide HR2
        rw [if_pos (.inl c3)] at hR
        subst hR
        clear HR2 c3
        go_wp2_with fail
        go_ret
        exact ⟨rfl, unhide HB1⟩

end Go.Proofs.YtdhobdmhnocbgaaGreat

namespace Go.Proofs.YtdhobdmhnocbgaaGreat
open Go.RowKit Zr

def tot (L : List ST) : Nat := (L.flatMap ST.l).length
theorem tot_cat (A B : List ST) : tot (A ++ B) = tot A + tot B := by unfold tot; rw [List.flatMap_append, List.length_append]
theorem tot_want (z : List RI) (L : List ST) (p : Nat) (n : ByteArray) (t : Int) : tot (wantP z L p n t) ≤ tot L + z.length := by
  unfold wantP
  split
  · omega
  · rw [tot_cat]
    have := ofP_len z n t
    have e : tot [⟨p, t, ofP z n t⟩] = (ofP z n t).length := by unfold tot; simp
    omega
theorem count_or (p q : RI → Bool) (h : ∀ x, ¬ (p x = true ∧ q x = true)) : ∀ l : List RI, l.countP (fun x => p x || q x) = l.countP p + l.countP q
  | [] => rfl
  | x :: l => by
    rw [List.countP_cons, List.countP_cons, List.countP_cons, count_or p q h l]
    have := h x
    cases hp : p x <;> cases hq : q x <;> simp_all <;> omega
theorem tot_all (z : List RI) (n : ByteArray) : ∀ j, tot (wantTo z n [] j) = z.countP (fun x => decide (x.name = n) && hasSetP (wantTo z n [] j) x.ty)
  | 0 => by
    show 0 = _
    symm
    rw [List.countP_eq_zero]
    intro x _
    simp [wantTo, hasSetP]
  | j + 1 => by
    have ih := tot_all z n j
    rcases Nat.lt_or_ge j z.length with k | k
    · rw [wantTo_step z n [] j k]
      by_cases c : z[j].name = n ∧ hasSetP (wantTo z n [] j) z[j].ty = false
      · rw [if_pos c]
        unfold wantP
        split
        · exact ih
        · rw [tot_cat, ih]
          have e : tot [⟨0, z[j].ty, ofP z n z[j].ty⟩] = z.countP (fun x => decide (x.name = n ∧ x.ty = z[j].ty)) := by
            unfold tot ofP
            rw [List.countP_eq_length_filter]
            simp
          rw [e, ← count_or _ _ (fun x => by
            rintro ⟨h1, h2⟩
            simp at h1 h2
            rw [h2.2, c.2] at h1
            exact absurd h1.2 (by simp))]
          apply List.countP_congr
          intro x _
          have hs : hasSetP (wantTo z n [] j ++ [⟨0, z[j].ty, ofP z n z[j].ty⟩]) x.ty = (hasSetP (wantTo z n [] j) x.ty || decide (z[j].ty = x.ty)) := by
            unfold hasSetP
            rw [List.any_append]
            simp
          rw [hs]
          simp only [Bool.or_eq_true, Bool.and_eq_true, decide_eq_true_eq]
          constructor
          · rintro (⟨a, b⟩ | ⟨a, b⟩)
            · exact ⟨a, .inl b⟩
            · exact ⟨a, .inr b.symm⟩
          · rintro ⟨a, b | b⟩
            · exact .inl ⟨a, b⟩
            · exact .inr ⟨a, b.symm⟩
      · rw [if_neg c]
        exact ih
    · have e : wantTo z n [] (j + 1) = wantTo z n [] j := by
        show (match z[j]? with | none => _ | some x => _ : List ST) = _
        rw [List.getElem?_eq_none k]
      rw [e]
      exact ih
theorem tot_answ (z : List RI) (n : ByteArray) (t : Int) : tot (answP z [] n t) ≤ 2 * z.length := by
  unfold answP
  split
  · rw [tot_all]
    have := List.countP_le_length (p := fun x => decide (x.name = n) && hasSetP (wantTo z n [] z.length) x.ty) (l := z)
    omega
  · have e0 : tot [] = 0 := rfl
    split
    · have := tot_want z [] 0 n 5
      omega
    · have h1 := tot_want z [] 0 n 5
      have h2 := tot_want z (wantP z [] 0 n 5) 0 (aimP z n) t
      omega
theorem tot_main (z : List RI) (n : ByteArray) (t : Int) : tot (mainP z n t) ≤ 3 * z.length := by
  have h1 := tot_answ z n t
  unfold mainP soaP
  split
  · omega
  · have := tot_want z (answP z [] n t) 1 originB 6
    omega
theorem hosts_more (z sv : List RI) (L : List ST) (h : SubZ z L) : ∀ j, j ≤ sv.length → tot (hostsTo z sv L j).2 ≤ tot L + j ∧ SubZ z (hostsTo z sv L j).2
  | 0, _ => ⟨Nat.le_refl _, h⟩
  | j + 1, hj => by
    obtain ⟨i1, i2⟩ := hosts_more z sv L h j (by omega)
    obtain ⟨s1, s2⟩ := hosts_step z sv L j (by omega)
    rcases Nat.lt_or_ge (seekP z (targetP sv[j].data) (hostsTo z sv L j).1) z.length with k | k
    · rw [s1 k]
      refine ⟨?_, ?_⟩
      · show tot (_ ++ _) ≤ _
        rw [tot_cat]
        have : tot [⟨2, z[seekP z (targetP sv[j].data) (hostsTo z sv L j).1].ty, [z[seekP z (targetP sv[j].data) (hostsTo z sv L j).1]]⟩] = 1 := rfl
        omega
      · intro s hs
        rcases List.mem_append.1 hs with q | q
        · exact i2 s q
        · rw [List.mem_singleton] at q
          subst q
          refine ⟨by simp, Nat.le_refl _, by simp only [List.length_cons, List.length_nil]; omega, fun x hx => ?_⟩
          rw [List.mem_singleton] at hx
          subst hx
          exact List.getElem_mem k
    · rw [s2 k]
      exact ⟨by show tot (hostsTo z sv L j).2 ≤ _; omega, i2⟩
theorem sets_all (z : List RI) (n : ByteArray) (t : Int) : SubZ z (setsP z n t) ∧ tot (setsP z n t) ≤ 4 * z.length ∧ (setsP z n t).length ≤ 2 * z.length + 3 := by
  unfold setsP
  split
  · have h1 := SubZ.main z n t
    have h2 := h1.services.1
    obtain ⟨h3, h4⟩ := hosts_more z (servicesP (mainP z n t)) _ h1 _ (Nat.le_refl _)
    have h5 := tot_main z n t
    have h6 := (hosts_le z (servicesP (mainP z n t)) (mainP z n t) (servicesP (mainP z n t)).length).2
    have h7 := main_len z n t
    exact ⟨h4, by unfold hostsP; omega, by unfold hostsP; omega⟩
  · unfold soaP
    have h1 := tot_want z [] 1 originB 6
    have h2 := wantP_len z [] 1 originB 6
    have h0 : tot [] = 0 := rfl
    simp only [List.length_nil] at h2
    exact ⟨(SubZ.nil z).want 1 (by omega) _ 6, by omega, by omega⟩
theorem sets_ok (z : List RI) (n : ByteArray) (t : Int) (hz : z.length ≤ 16777216) (hs : RSized' z) : SetsOk (setsP z n t) ∧ (setsP z n t).length ≤ 134217720 := by
  obtain ⟨h1, h2, h3⟩ := sets_all z n t
  exact ⟨⟨fun s hs' => ⟨(h1 s hs').1, (h1 s hs').2.1, fun x hx => hs x ((h1 s hs').2.2.2 x hx)⟩, by unfold tot at h2; omega⟩, by omega⟩

theorem under_small (s : ByteArray) (h : s.size ≤ 15) : (underP s).size ≤ 100 := by
  unfold underP
  rw [ByteArray.size_append, ByteArray.size_append]
  have e1 : (one s.size).size = 1 := rfl
  have e2 : originB.size = 10 := rfl
  omega
theorem up_small {l : List Ev} {e : Ev} (h : e ∈ upM l) : e.node.size ≤ 15 ∧ e.addr.size ≤ 16 ∧ e.text.size ≤ 60 ∧ e.alias.size ≤ 15 := by
  obtain ⟨i, hi, rfl⟩ := List.mem_iff_getElem.1 h
  obtain ⟨h1, h2, _, _, h5, h6⟩ := up_ok l i hi
  exact ⟨h1, by omega, h5, h6⟩
/-- The zone's records are short. -/
theorem zone_short (l : List Ev) : RSized' (recordsM l) := by
  intro x hx
  unfold recordsM at hx
  rcases List.mem_append.1 hx with h | h
  · rcases List.mem_append.1 h with h | h
    · rcases List.mem_append.1 h with h | h
      · simp only [List.mem_cons, List.mem_nil_iff, or_false] at h
        rcases h with rfl | rfl
        · refine ⟨by show (10 : Nat) ≤ _; omega, ?_⟩
          show (soaB _).size ≤ _
          unfold soaB
          simp only [ByteArray.size_append, q4_size]
          show 13 + 16 + 4 + 4 + 4 + 4 + 4 ≤ _
          omega
        · exact ⟨by show (10 : Nat) ≤ _; omega, by show (13 : Nat) ≤ _; omega⟩
      · obtain ⟨u, hu, hx⟩ := List.mem_flatMap.1 h
        obtain ⟨h1, h2, h3, h4⟩ := up_small hu
        have hun := under_small u.node h1
        unfold nodeR at hx
        rcases List.mem_cons.1 hx with rfl | hx
        · exact ⟨by show (underP u.node).size ≤ _; omega, by show u.addr.size ≤ _; omega⟩
        · split at hx
          · simp at hx
          · rw [List.mem_singleton] at hx
            subst hx
            refine ⟨by show (underP u.node).size ≤ _; omega, ?_⟩
            show (one u.text.size ++ u.text).size ≤ _
            rw [ByteArray.size_append]
            show 1 + u.text.size ≤ _
            omega
    · obtain ⟨u, hu, rfl⟩ := List.mem_map.1 h
      obtain ⟨h1, h2, h3, h4⟩ := up_small (aliM_up hu)
      have hun := under_small u.node h1
      have hua := under_small u.alias h4
      exact ⟨by show (underP u.alias).size ≤ _; omega, by show (underP u.node).size ≤ _; omega⟩
  · obtain ⟨u, hu, rfl⟩ := List.mem_map.1 h
    obtain ⟨h1, h2, h3, h4⟩ := up_small hu
    have hun := under_small u.node h1
    refine ⟨by show (21 : Nat) ≤ _; omega, ?_⟩
    show (q4 0 ++ wd _ ++ underP u.node).size ≤ _
    rw [ByteArray.size_append, ByteArray.size_append, q4_size, wd_size]
    omega
theorem zone_len (l : List Ev) : (recordsM l).length ≤ 4 * l.length + 2 := by
  have h1 := upM_len l
  have h2 := nodeR_to (upM l) (upM l).length
  rw [List.take_length] at h2
  have h3 := aliM_len (upM l) (sortP (aliEs (upM l))) (sortP (aliEs (upM l))).length
  rw [sort_length] at h3
  have h4 := aliEs_len (upM l) (upM l).length
  rw [List.take_length] at h4
  unfold recordsM
  simp only [List.length_append, List.length_map, List.length_cons, List.length_nil]
  rw [sort_length] at *
  omega

end Go.Proofs.YtdhobdmhnocbgaaGreat

namespace Go.Proofs.YtdhobdmhnocbgaaGreat
open Go.RowKit Zr

/-- Questions that lie in a block of questions. -/
def QueRow (w : World) (a : Option Addr) (l : List QI) : Prop :=
  l ≠ [] → ∃ g o cs, a = some ⟨g, o, none⟩ ∧ w.heap[g]? = some (.cells cs 60 (0, 0)) ∧ ∀ j u, (qcI l)[j]? = some u → cs[o + j]? = some u
theorem QueRow.row {w : World} {a : Option Addr} {l : List QI} (h : QueRow w a l) : RowAt w w.heap.size a (qcI l) := by
  intro hx
  obtain ⟨g, o, cs, h1, h2, h3⟩ := h (fun e => hx (by rw [e]; rfl))
  exact ⟨g, o, h1, blk_lt h2, fun j u hu => (cell_of_blk h2 (o + j)).trans (h3 j u hu)⟩
theorem QueRow.grown {w w' : World} {X : Nat} {a : Option Addr} {l : List QI} (h : QueRow w a l) (hg : w.grownBy w' (some X)) {cs : Array Value} {t : TypeId} {fr : Nat × Nat} (hX : w.heap[X]? = some (.cells cs t fr)) (ht : t ≠ 60) : QueRow w' a l := by
  intro hl
  obtain ⟨g, o, cs', h1, h2, h3⟩ := h hl
  refine ⟨g, o, cs', h1, (hg.block g (blk_lt h2) (fun e => ?_)).trans h2, h3⟩
  cases e
  rw [hX] at h2
  cases h2
  exact ht rfl
theorem QueRow.below {w w' : World} {a : Option Addr} {l : List QI} (h : QueRow w a l) (hb : Below w.heap.size w w') : QueRow w' a l := by
  intro hl
  obtain ⟨g, o, cs', h1, h2, h3⟩ := h hl
  exact ⟨g, o, cs', h1, (hb.block g (blk_lt h2)).trans h2, h3⟩

theorem grown_of_below {w w' : World} {X : Nat} (h : Below w.heap.size w w') : w.grownBy w' (some X) := ⟨h.os, h.tape, h.output, h.size, fun k hk _ => h.block k hk⟩
theorem grownX_trans {a b c : World} {X : Nat} (h : a.grownBy b (some X)) (k : b.grownBy c (some X)) : a.grownBy c (some X) :=
  ⟨k.os.trans h.os, k.tape.trans h.tape, k.output.trans h.output, Nat.le_trans h.size k.size, fun i h1 h2 => (k.block i (Nat.lt_of_lt_of_le h1 h.size) h2).trans (h.block i h1 h2)⟩
theorem grown_low {w w' : World} {X N : Nat} (h : w.grownBy w' (some X)) (hN : N ≤ X) (hX : X < w.heap.size) : Below N w w' :=
  ⟨h.os, h.tape, h.output, h.size, fun k hk => h.block k (by omega) (fun e => by cases e; omega)⟩

/-- A search stays while a block of another kind is written. -/
theorem Sr.set {w : World} {N S : Nat} {az : Option Addr} {cz : Nat} {z : List RI} {L : List ST} (h : Sr w N S az cz z L) {X : Nat} {cs : Array Value} {t : TypeId} (hX : w.heap[X]? = some (.cells cs t (0, 0))) (h1 : t ≠ 149) (h2 : t ≠ 145) (h3 : t ≠ 42) (j : Nat) (v : Value) : Sr (w.setCell ⟨X, j, none⟩ v) N S az cz z L := by
  obtain ⟨a, c, xs, k1, k2, k3, k4, k5⟩ := h
  have hrec : ∀ {a : Option Addr} {l : List RI}, RecRow w a l → RecRow (w.setCell ⟨X, j, none⟩ v) a l := by
    intro a l hr hl
    obtain ⟨g, o, cs', e1, e2, e3⟩ := hr hl
    refine ⟨g, o, cs', e1, (blk_set_other (fun e => ?_) _ _).trans e2, e3⟩
    subst e
    rw [hX] at e2
    cases e2
    exact h3 rfl
  refine ⟨a, c, xs, (blk_set_other (fun e => ?_) _ _).trans k1, k2, owns_set_kind k3 hX (Ne.symm h1) j v, ⟨k4.1, fun i hi => ?_⟩, hrec k5⟩
  · subst e
    rw [hX] at k1
    cases k1
    exact h2 rfl
  · obtain ⟨a', c', x1, x2, x3, x4, x5⟩ := k4.2 i hi
    exact ⟨a', c', x1, x2, x3, hrec x4, x5⟩

set_option maxRecDepth 100000 in
set_option maxHeartbeats 4000000 in
theorem look_m (X N id fl lim : Nat) (aq : Option Addr) (cq : Nat) (q : List QI) (opt : Bool) (l : List Ev) (al : Option Addr) (cl : Nat) (qq : QI) (w : World)
    (hX : w.heap[X]? = some (.cells #[.int .i64 (id : Nat), .int .i64 (fl : Nat), .int .i64 0, .slice aq q.length cq, .bool opt, .slice none 0 0, .int .i64 (lim : Nat)] 76 (0, 0)))
    (hE : RowAt w N al (evC l)) (hN : N ≤ X) (hl : l.length ≤ 1048576) (hz : EvSized l) (hq : QueRow w aq q) (hq2 : q.length ≤ cq) (hq3 : QSized q) (hid : id < 65536) (hfl : fl < 65536) (hlm : lim ≤ 65535) (hqq : qq.name.size ≤ 65535) :
    Calls Tryz.prog 79 #[.pointer (some ⟨X, 0, none⟩), .slice al l.length cl, .agg #[.string qq.name, .int .i64 qq.ty, .int .i64 qq.cl]] w fun e w' => e = .returned (.tuple #[]) ∧ Rp w' X ⟨id, fl ||| 1024, toldP (recordsM l) (smallP qq.name), q, opt, setsP (recordsM l) (smallP qq.name) qq.ty, lim⟩ ∧ w.grownBy w' (some X) := by
  have hor : bits .or .i64 (fl : Int) 1024 = ((fl ||| 1024 : Nat) : Int) := by
    have := i64_or_nat fl 1024 hfl (by decide)
    simpa using this
  have hfl2 : fl ||| 1024 < 65536 := Nat.or_lt_two_pow (n := 16) hfl (by decide)
  obtain ⟨⟨x0, x1, x2, x3, x4, x5, x6⟩, y0, y1, y2, y3, y4, y5, y6⟩ := an_cells7 hX
  have hlt := blk_lt hX
  obtain ⟨nm, ty, kl⟩ := qq
  simp only at hqq ⊢
  go_enter Tryz.func79, Tryz.ntmps79
  have hG1 : w.grownBy ((w.setCell ⟨X, 1, none⟩ (.int .i64 ((fl ||| 1024 : Nat) : Int))).alloc (.cells #[.string nm, .int .i64 ty, .int .i64 kl] 60)) (some X) := grownX_trans (grown_set w X 1 _) (grown_of_below ((Below.refl _ _).alloc (Nat.le_refl _) _))
  have hX1 : ((w.setCell ⟨X, 1, none⟩ (.int .i64 ((fl ||| 1024 : Nat) : Int))).alloc (.cells #[.string nm, .int .i64 ty, .int .i64 kl] 60)).heap[X]? = some (.cells #[.int .i64 (id : Nat), .int .i64 ((fl ||| 1024 : Nat) : Int), .int .i64 0, .slice aq q.length cq, .bool opt, .slice none 0 0, .int .i64 (lim : Nat)] 76 (0, 0)) := (Below.heap_alloc _ _ _ (by rw [size_set]; exact hlt)).trans (blk_set hX 1 _)
  have hQ1 : ((w.setCell ⟨X, 1, none⟩ (.int .i64 ((fl ||| 1024 : Nat) : Int))).alloc (.cells #[.string nm, .int .i64 ty, .int .i64 kl] 60)).heap[w.heap.size]? = some (.cells #[.string nm, .int .i64 ty, .int .i64 kl] 60 (0, 0)) := by
    have := heap_alloc_new (w.setCell ⟨X, 1, none⟩ (.int .i64 ((fl ||| 1024 : Nat) : Int))) (.cells #[.string nm, .int .i64 ty, .int .i64 kl] 60)
    rw [size_set] at this
    exact this
  have hE1 := hE.below (grown_low hG1 hN hlt)
  have kr := fun hs => records_m l al cl N _ hE1 hs (by omega) hz
  have hrl := zone_len l
  have hrs := zone_short l
  obtain ⟨z, hzr⟩ : ∃ z, recordsM l = z := ⟨_, rfl⟩
  simp only [hzr] at kr hrl hrs
  have HZr := hide hzr
  clear hzr
  have HG1 := hide hG1
  have HX1 := hide hX1
  have HQ1 := hide hQ1
  have KR := hide kr
  have HRs := hide hrs
  have HQ := hide hq
  have HX := hide hX
  have ksm := fun (W : World) => small_m nm W (by omega)
  have KSm := hide ksm
  clear hG1 hX1 hQ1 hE1 kr hrs hq hX ksm
  go_wp2_with fail
  clear x0 x1 x2 x3 x4 x5 x6 y0 y1 y2 y3 y4 y5 y6
  generalize (w.setCell ⟨X, 1, none⟩ (.int .i64 ((fl ||| 1024 : Nat) : Int))).alloc (.cells #[.string nm, .int .i64 ty, .int .i64 kl] 60) = W1 at *
  have hlx := blk_lt (unhide HX1)
  refine (unhide KR (by omega)).mono ?_
  rintro e w2 ⟨az, cz, rfl, oz, bz⟩
  obtain ⟨hrec, _⟩ := owns_recRow oz
  have hX2 := (bz.block X hlx).trans (unhide HX1)
  have hQ2 := (bz.block w.heap.size (blk_lt (unhide HQ1))).trans (unhide HQ1)
  have hG2 := grownX_trans (unhide HG1) (grown_of_below (X := X) bz)
  have hsz2 : w.heap.size ≤ w2.heap.size := hG2.size
  clear HX1 HQ1 HG1 KR oz bz
  have hbs : Below w2.heap.size w2 (w2.alloc (.cells #[.slice az z.length cz, .slice none 0 0] 145)) := (Below.refl _ _).alloc (Nat.le_refl _) _
  have hS3 : Sr (w2.alloc (.cells #[.slice az z.length cz, .slice none 0 0] 145)) w2.heap.size w2.heap.size az cz z [] := ⟨none, 0, [], heap_alloc_new _ _, Nat.le_refl _, World.ownsRow_nil _ _ _ _, ⟨rfl, fun i hi => absurd hi (by simp)⟩, hrec.below hbs⟩
  have hX3 := (hbs.block X (blk_lt hX2)).trans hX2
  have hQ3 := (hbs.block w.heap.size (blk_lt hQ2)).trans hQ2
  have hG3 := grownX_trans hG2 (grown_of_below (X := X) hbs)
  obtain ⟨z0, z1, z2, _⟩ := cells3 hQ2
  have hlQ := blk_lt hQ2
  have hlX := blk_lt hX2
  have HX3 := hide hX3
  have HQ3 := hide hQ3
  have HG3 := hide hG3
  have HS3 := hide hS3
  clear hbs hX3 hQ3 hG3 hS3 hX2 hQ2 hG2 hrec
  go_wp2_with fail
  generalize w2.alloc (.cells #[.slice az z.length cz, .slice none 0 0] 145) = W3 at *
  refine (unhide KSm _).mono ?_
  rintro e w4 ⟨rfl, hb4⟩
  obtain ⟨sn, hsn⟩ : ∃ sn, smallP nm = sn := ⟨_, rfl⟩
  rw [hsn]
  have HSn := hide hsn
  have hX4 := (hb4.block X (blk_lt (unhide HX3))).trans (unhide HX3)
  have hQ4 := (hb4.block w.heap.size (blk_lt (unhide HQ3))).trans (unhide HQ3)
  have hS4 := (unhide HS3).below hb4
  have hG4 := grownX_trans (unhide HG3) (grown_of_below (X := X) hb4)
  have kr4 := run_m w2.heap.size w2.heap.size az cz z sn ty w4 hS4 (by omega) (unhide HRs)
  obtain ⟨⟨x0, x1, x2, x3, x4, x5, x6⟩, y0, y1, y2, y3, y4, y5, y6⟩ := an_cells7 hX4
  have hlX4 := blk_lt hX4
  obtain ⟨⟨r0, r1, r2⟩, q0, q1, q2⟩ := cells3 hQ4
  have hlQ4 := blk_lt hQ4
  have hlS4 := hS4.lt.2
  have HX4 := hide hX4
  have HQ4 := hide hQ4
  have HG4 := hide hG4
  have HS4 := hide hS4
  have KR4 := hide kr4
  obtain ⟨told, htold⟩ : ∃ t, toldP z sn = t := ⟨_, rfl⟩
  obtain ⟨L, hL⟩ : ∃ L, setsP z sn ty = L := ⟨_, rfl⟩
  rw [htold, hL] at KR4
  have HTo := hide htold
  have HL := hide hL
  clear hX4 hQ4 hG4 hS4 kr4 HX3 HQ3 HG3 HS3 hb4 hsn KSm htold hL z0 z1 z2
  go_wp2_with fail
  refine (unhide KR4).mono ?_
  rintro e w5 ⟨rfl, hS5, hF5⟩
  have hX5 := hF5.kind X _ _ _ (unhide HX4) (by decide) (by decide)
  have hG5 : w.grownBy w5 (some X) := ⟨hF5.os.trans (unhide HG4).os, hF5.tape.trans (unhide HG4).tape, hF5.output.trans (unhide HG4).output, Nat.le_trans (unhide HG4).size hF5.size, fun k hk hne => (hF5.low k (by omega) (Nat.lt_of_lt_of_le hk (unhide HG4).size)).trans ((unhide HG4).block k hk hne)⟩
  clear x0 x1 x2 x3 x4 x5 x6 y0 y1 y2 y3 y4 y5 y6 r0 r1 r2 q0 q1 q2
  obtain ⟨⟨x0, x1, x2, x3, x4, x5, x6⟩, y0, y1, y2, y3, y4, y5, y6⟩ := an_cells7 hX5
  have HS5 := hide hS5
  obtain ⟨aL, cL, xs, hSb, _, _, _, _⟩ := hS5
  obtain ⟨s0, s1, s2, s3⟩ := sr_cells hSb
  have hlX5 := blk_lt hX5
  have hlS5 := blk_lt hSb
  have hSX : w2.heap.size ≠ X := by omega
  have HX5 := hide hX5
  have HG5 := hide hG5
  have HSb := hide hSb
  clear hX5 hG5 hF5 hSb KR4 HX4 HQ4 HG4 HS4
  go_wp2_with fail
  go_end0
  have hX6 := blk_set (unhide HX5) 2 (.int .i64 (told : Nat))
  have hX7 := blk_set hX6 5 (.slice aL L.length cL)
  have hS7 := ((unhide HS5).set (unhide HX5) (by decide) (by decide) (by decide) 2 (.int .i64 (told : Nat))).set hX6 (by decide) (by decide) (by decide) 5 (.slice aL L.length cL)
  have hG7 := grownX_trans (grownX_trans (unhide HG5) (grown_set w5 X 2 (.int .i64 (told : Nat)))) (grown_set _ X 5 (.slice aL L.length cL))
  obtain ⟨a', c', _, d1, _, _, _, hget⟩ := hS7.get
  have hd : w2.heap.size ≠ X := hSX
  have hSb7 := (blk_set_other (w := w5.setCell ⟨X, 2, none⟩ (.int .i64 (told : Nat))) hSX 5 (.slice aL L.length cL)).trans ((blk_set_other (w := w5) hSX 2 (.int .i64 (told : Nat))).trans (unhide HSb))
  have d1' := (sr_cells hSb7).2.1
  rw [d1'] at d1
  cases d1
  have hQ7 := (unhide HQ).grown hG7 (unhide HX) (by decide)
  have hok := sets_ok z sn ty (by omega) (unhide HRs)
  have htl : toldP z sn ≤ 16 := by unfold toldP; split <;> omega
  rw [unhide HL] at hok
  rw [unhide HTo] at htl
  refine ⟨rfl, ?_, hG7⟩
  rw [unhide HZr, unhide HSn, unhide HTo, unhide HL]
  exact ⟨aq, cq, aL, cL, hX7, hQ7.row, hq2, hq3, hget, hok.1, hok.2, hid, hfl2, htl, hlm⟩

end Go.Proofs.YtdhobdmhnocbgaaGreat

namespace Go.Proofs.YtdhobdmhnocbgaaGreat
open Go.RowKit Zr

theorem opt_bounds {m : MI} (hok : msgOk m) : ((optOfP m.x).getD zeroR).cl = ((classP m.x : Nat) : Int) ∧ ((optOfP m.x).getD zeroR).ttl = ((lifeP m.x : Nat) : Int) ∧ classP m.x ≤ 65535 ∧ lifeP m.x ≤ 4294967295 := by
  unfold classP lifeP
  cases h : optOfP m.x with
  | none => exact ⟨rfl, rfl, by simp, by simp⟩
  | some r =>
    have hm : r ∈ m.x := List.mem_of_find?_eq_some h
    obtain ⟨i, hi, rfl⟩ := List.mem_iff_getElem.1 hm
    obtain ⟨⟨_, _, h3, h4, _⟩, _⟩ := hok.2.2.2.2.2.2 i hi
    have h31 := h3.1
    have h32 := h3.2
    have h41 := h4.1
    have h42 := h4.2
    refine ⟨?_, ?_, ?_, ?_⟩
    · show (m.x[i]).cl = ((m.x[i].cl.toNat : Nat) : Int); omega
    · show (m.x[i]).ttl = ((m.x[i].ttl.toNat : Nat) : Int); omega
    · show m.x[i].cl.toNat ≤ 65535; omega
    · show m.x[i].ttl.toNat ≤ 4294967295; omega

theorem lim_le (c : Nat) (s : Bool) : limP c s ≤ 65535 := by
  unfold limP
  split
  · omega
  · split
    · omega
    · split <;> omega

theorem take_not (id fl : Nat) (m : MI) (l : List Ev) (stream : Bool) (h : m.q.length ≠ 1) : takeP id fl m l stream = ⟨id, fl, 1, [], (optOfP m.x).isSome, [], limP (classP m.x) stream⟩ := by
  unfold takeP
  split
  · next q hq => rw [hq] at h; exact absurd rfl h
  · rfl
theorem take_one (id fl : Nat) (m : MI) (l : List Ev) (stream : Bool) (q : QI) (h : m.q = [q]) : takeP id fl m l stream = if refusalP m.flags.toNat (lifeP m.x) q = 0 then
      ⟨id, fl ||| 1024, toldP (recordsM l) (smallP q.name), [q], (optOfP m.x).isSome, setsP (recordsM l) (smallP q.name) q.ty, limP (classP m.x) stream⟩
    else ⟨id, fl, refusalP m.flags.toNat (lifeP m.x) q, [q], (optOfP m.x).isSome, [], limP (classP m.x) stream⟩ := by
  unfold takeP
  rw [h]

/-- The first question of a row. -/
theorem que_at {w : World} {a : Option Addr} {l : List QI} {q : QI} (h : QueRow w a l) (hl : l = [q]) : ∃ g o cs, a = some ⟨g, o, none⟩ ∧ w.heap[g]? = some (.cells cs 60 (0, 0)) ∧ w.cell? ⟨g, o, none⟩ = some (.string q.name) ∧ w.cell? ⟨g, o + 1, none⟩ = some (.int .i64 q.ty) ∧ w.cell? ⟨g, o + 2, none⟩ = some (.int .i64 q.cl) := by
  subst hl
  obtain ⟨g, o, cs, h1, h2, h3⟩ := h (by simp)
  exact ⟨g, o, cs, h1, h2, (cell_of_blk h2 o).trans (h3 0 _ rfl), (cell_of_blk h2 (o + 1)).trans (h3 1 _ rfl), (cell_of_blk h2 (o + 2)).trans (h3 2 _ rfl)⟩

theorem sets_nil : SetsOk [] := ⟨fun s hs => absurd hs (by simp), Nat.zero_le _⟩
theorem ques_nil : QSized [] := fun i hi => absurd hi (Nat.not_lt_zero i)

set_option maxRecDepth 100000 in
set_option maxHeartbeats 4000000 in
theorem take_m (X N id fl : Nat) (m : MI) (a1 : Option Addr) (c1 : Nat) (a2 : Option Addr) (c2 : Nat) (a3 : Option Addr) (c3 : Nat) (a4 : Option Addr) (c4 : Nat) (l : List Ev) (al : Option Addr) (cl : Nat) (stream : Bool) (w : World)
    (hX : w.heap[X]? = some (.cells #[.int .i64 (id : Nat), .int .i64 (fl : Nat), .int .i64 0, .slice none 0 0, .bool false, .slice none 0 0, .int .i64 0] 76 (0, 0)))
    (hE : RowAt w N al (evC l)) (hN : N ≤ X) (hl : l.length ≤ 1048576) (hz : EvSized l) (hq : QueRow w a1 m.q) (hq2 : m.q.length ≤ c1) (hr : RecRow w a4 m.x) (hok : msgOk m) (hid : id < 65536) (hfl : fl < 65536) :
    Calls Tryz.prog 41 #[.pointer (some ⟨X, 0, none⟩), .agg #[.int .i64 m.id, .int .i64 m.flags, .slice a1 m.q.length c1, .slice a2 m.a.length c2, .slice a3 m.u.length c3, .slice a4 m.x.length c4], .slice al l.length cl, .bool stream] w fun e w' => e = .returned (.tuple #[]) ∧ Rp w' X (takeP id fl m l stream) ∧ w.grownBy w' (some X) := by
  have hlt := blk_lt hX
  have hb1 : Below w.heap.size w (w.alloc (.cells #[.int .i64 m.id, .int .i64 m.flags, .slice a1 m.q.length c1, .slice a2 m.a.length c2, .slice a3 m.u.length c3, .slice a4 m.x.length c4] 32)) := (Below.refl _ _).alloc (Nat.le_refl _) _
  have hM1 := heap_alloc_new w (.cells #[.int .i64 m.id, .int .i64 m.flags, .slice a1 m.q.length c1, .slice a2 m.a.length c2, .slice a3 m.u.length c3, .slice a4 m.x.length c4] 32)
  have ko := options_m m.x a4 c4 _ (hr.below hb1).row (by have := hok.2.2.2.2.2.1; omega)
  obtain ⟨o1, o2, o3, o4⟩ := opt_bounds hok
  have hX1 := (hb1.block X hlt).trans hX
  have HX1 := hide hX1
  have HM1 := hide hM1
  have HB1 := hide hb1
  have KO := hide ko
  have HX := hide hX
  have HE := hide hE
  have HQ := hide hq
  have HOk := hide hok
  have HQz := hide (show QSized m.q from fun i hi => by have := (whole_pos (hok.2.2.1.2 i hi).1).2; omega)
  have hf1 := hok.2.1.1
  have hf2 := hok.2.1.2
  clear hb1 hM1 ko hX1 hX hE hq hok
  go_enter Tryz.func41, Tryz.ntmps41
  go_wp2_with fail
  generalize w.alloc (.cells #[.int .i64 m.id, .int .i64 m.flags, .slice a1 m.q.length c1, .slice a2 m.a.length c2, .slice a3 m.u.length c3, .slice a4 m.x.length c4] 32) = W1 at *
  refine (unhide KO).mono ?_
  rintro e w2 ⟨r, rfl, hr2, hb2⟩
  have hX2 := (hb2.block X (blk_lt (unhide HX1))).trans (unhide HX1)
  have hM2 := (hb2.block w.heap.size (blk_lt (unhide HM1))).trans (unhide HM1)
  have hB2 := (unhide HB1).trans (hb2.mono (unhide HB1).size)
  rw [← hr2] at o1 o2
  obtain ⟨rn, rt, rc, rl, rd⟩ := r
  simp only at o1 o2 ⊢
  subst o1 o2
  obtain ⟨⟨x0, x1, x2, x3, x4, x5, x6⟩, y0, y1, y2, y3, y4, y5, y6⟩ := an_cells7 hX2
  obtain ⟨⟨m0, m1, m2, m3, m4, m5⟩, n0, n1, n2, n3, n4, n5⟩ := cells6 hM2
  have hlX2 := blk_lt hX2
  have hlM2 := blk_lt hM2
  have HX2 := hide hX2
  have HM2 := hide hM2
  have HB2 := hide hB2
  have kl := fun (W : World) => limit_m (classP m.x) stream W
  have KL := hide kl
  obtain ⟨fo, hfo⟩ : ∃ f, (optOfP m.x).isSome = f := ⟨_, rfl⟩
  obtain ⟨C, hC⟩ : ∃ C, classP m.x = C := ⟨_, rfl⟩
  obtain ⟨T, hT⟩ : ∃ T, lifeP m.x = T := ⟨_, rfl⟩
  rw [hfo, hC, hT]
  rw [hC] at KL
  rw [hC] at o3
  rw [hT] at o4
  have HFo := hide hfo
  have HC := hide hC
  have HT := hide hT
  clear hX2 hM2 hB2 hb2 hr2 kl hfo hC hT KO HX1 HM1
  have hX3 := (Below.heap_alloc (w2.setCell ⟨X, 4, none⟩ (.bool fo)) (.cells #[.string rn, .int .i64 rt, .int .i64 (C : Nat), .int .i64 (T : Nat), .string rd] 42) X (by rw [size_set]; exact hlX2)).trans (blk_set (unhide HX2) 4 (.bool fo))
  have hM3 := (Below.heap_alloc (w2.setCell ⟨X, 4, none⟩ (.bool fo)) (.cells #[.string rn, .int .i64 rt, .int .i64 (C : Nat), .int .i64 (T : Nat), .string rd] 42) w.heap.size (by rw [size_set]; exact hlM2)).trans ((blk_set_other (show w.heap.size ≠ X by omega) 4 (.bool fo)).trans (unhide HM2))
  have hO3 := heap_alloc_new (w2.setCell ⟨X, 4, none⟩ (.bool fo)) (.cells #[.string rn, .int .i64 rt, .int .i64 (C : Nat), .int .i64 (T : Nat), .string rd] 42)
  rw [size_set] at hO3
  have hG3 := grownX_trans (grown_of_below (X := X) (unhide HB2)) (grownX_trans (grown_set w2 X 4 (.bool fo)) (grown_of_below (X := X) ((Below.refl (w2.setCell ⟨X, 4, none⟩ (.bool fo)).heap.size (w2.setCell ⟨X, 4, none⟩ (.bool fo))).alloc (Nat.le_refl _) (.cells #[.string rn, .int .i64 rt, .int .i64 (C : Nat), .int .i64 (T : Nat), .string rd] 42))))
  have HX3 := hide hX3
  have HM3 := hide hM3
  have HO3 := hide hO3
  have HG3 := hide hG3
  have hso : w2.heap.size ≠ X := by omega
  have hsm : w.heap.size ≠ X := by omega
  clear hX3 hM3 hO3 hG3
  go_wp2_with fail
  generalize (w2.setCell ⟨X, 4, none⟩ (.bool fo)).alloc (.cells #[.string rn, .int .i64 rt, .int .i64 (C : Nat), .int .i64 (T : Nat), .string rd] 42) = W3 at *
  refine (unhide KL _).mono ?_
  rintro e w' ⟨rfl, rfl⟩
  clear x0 x1 x2 x3 x4 x5 x6 y0 y1 y2 y3 y4 y5 y6 m0 m1 m2 m3 m4 m5 n0 n1 n2 n3 n4 n5 KL HX2 HM2 HB2
  obtain ⟨⟨x0, x1, x2, x3, x4, x5, x6⟩, y0, y1, y2, y3, y4, y5, y6⟩ := an_cells7 (unhide HX3)
  obtain ⟨⟨m0, m1, m2, m3, m4, m5⟩, n0, n1, n2, n3, n4, n5⟩ := cells6 (unhide HM3)
  obtain ⟨⟨o0, o1, o2, o5, o6⟩, p0, p1, p2, p3, p4⟩ := cells5 (unhide HO3)
  have hlX3 := blk_lt (unhide HX3)
  have hlM3 := blk_lt (unhide HM3)
  have hlO3 := blk_lt (unhide HO3)
  have hlim := lim_le C stream
  obtain ⟨lim, hlm⟩ : ∃ lim, limP C stream = lim := ⟨_, rfl⟩
  rw [hlm] at hlim ⊢
  have HLm := hide hlm
  clear hlm
  have hX4 := blk_set (unhide HX3) 6 (.int .i64 (lim : Nat))
  have HX4 := hide hX4
  have hG4 := grownX_trans (unhide HG3) (grown_set w' X 6 (.int .i64 (lim : Nat)))
  have HG4 := hide hG4
  clear hX4 hG4
  by_cases cq : m.q.length = 1
  · obtain ⟨q, hmq⟩ : ∃ q, m.q = [q] := List.length_eq_one_iff.1 cq
    have hQ3 := (unhide HQ).grown (unhide HG3) (unhide HX) (by decide)
    obtain ⟨g, o, cs, rfl, hg, q0, q1, q2⟩ := que_at hQ3 hmq
    have hgX : g ≠ X := fun e => by
      subst e
      rw [unhide HX3] at hg
      cases hg
    have hlg := blk_lt hg
    have f1 : ((m.q.length : Int) != 1) = false := by rw [bne_eq_false_iff_eq]; omega
    have hpos : 0 < m.q.length := by omega
    have hwh : q.name.size ≤ 255 := by
      have := (unhide HOk).2.2.1.2 0 hpos
      have e : m.q[0] = q := by simp [hmq]
      rw [e] at this
      exact (whole_pos this.1).2
    have krf := fun (W : World) => refusal_m m.flags.toNat T q W (by omega) o4 (by omega)
    have eF : ((m.flags.toNat : Nat) : Int) = m.flags := by omega
    have eT := take_one id fl m l stream q hmq
    rw [unhide HT, unhide HFo, unhide HC, unhide HLm] at eT
    rw [eF] at krf
    obtain ⟨rf, hrf⟩ : ∃ r, refusalP m.flags.toNat T q = r := ⟨_, rfl⟩
    have hrf16 : rf ≤ 16 := by rw [← hrf]; unfold refusalP; split <;> (try split) <;> (try split) <;> omega
    rw [hrf] at krf eT
    have KRf := hide krf
    have HTk := hide eT
    have HMq := hide hmq
    have hX5 := blk_set (unhide HX4) 3 (.slice (some ⟨g, o, none⟩) 1 c1)
    have hG5 := grownX_trans (unhide HG4) (grown_set _ X 3 (.slice (some ⟨g, o, none⟩) 1 c1))
    have hz5 : ((w'.setCell ⟨X, 6, none⟩ (.int .i64 (lim : Nat))).setCell ⟨X, 3, none⟩ (.slice (some ⟨g, o, none⟩) 1 c1)).heap.size = w'.heap.size := by rw [size_set, size_set]
    have hQz := unhide HQz
    rw [hmq] at hQz
    have HQz1 := hide hQz
    have hQr := unhide HQ
    rw [hmq] at hQr
    have HQr := hide hQr
    obtain ⟨qn, qt, qc⟩ := q
    simp only at q0 q1 q2 hwh
    have hb6 := (Below.refl ((w'.setCell ⟨X, 6, none⟩ (.int .i64 (lim : Nat))).setCell ⟨X, 3, none⟩ (.slice (some ⟨g, o, none⟩) 1 c1)).heap.size ((w'.setCell ⟨X, 6, none⟩ (.int .i64 (lim : Nat))).setCell ⟨X, 3, none⟩ (.slice (some ⟨g, o, none⟩) 1 c1))).alloc (Nat.le_refl _) (.cells #[.string qn, .int .i64 qt, .int .i64 qc] 60)
    have hX6 := (hb6.block X (by rw [hz5]; exact hlX3)).trans hX5
    have hQ6 := heap_alloc_new ((w'.setCell ⟨X, 6, none⟩ (.int .i64 (lim : Nat))).setCell ⟨X, 3, none⟩ (.slice (some ⟨g, o, none⟩) 1 c1)) (.cells #[.string qn, .int .i64 qt, .int .i64 qc] 60)
    rw [hz5] at hQ6
    have hG6 := grownX_trans hG5 (grown_of_below (X := X) hb6)
    have HX6 := hide hX6
    have HQ6 := hide hQ6
    have HG6 := hide hG6
    have hqX : w'.heap.size ≠ X := by omega
    clear krf eT hmq hQ3 hg eF hrf hX5 hG5 hb6 hX6 hQ6 hG6 hQz hQr hz5
    go_wp2_with fail
    generalize ((w'.setCell ⟨X, 6, none⟩ (.int .i64 (lim : Nat))).setCell ⟨X, 3, none⟩ (.slice (some ⟨g, o, none⟩) 1 c1)).alloc (.cells #[.string qn, .int .i64 qt, .int .i64 qc] 60) = W6 at *
    refine (unhide KRf _).mono ?_
    rintro e w7 ⟨rfl, hb7⟩
    have hX7 := (hb7.block X (blk_lt (unhide HX6))).trans (unhide HX6)
    have hQ7 := (hb7.block w'.heap.size (blk_lt (unhide HQ6))).trans (unhide HQ6)
    have hG7 := grownX_trans (unhide HG6) (grown_of_below (X := X) hb7)
    clear x0 x1 x2 x3 x4 x5 x6 y0 y1 y2 y3 y4 y5 y6 m0 m1 m2 m3 m4 m5 n0 n1 n2 n3 n4 n5 o0 o1 o2 o5 o6 p0 p1 p2 p3 p4 q0 q1 q2
    obtain ⟨⟨x0, x1, x2, x3, x4, x5, x6⟩, y0, y1, y2, y3, y4, y5, y6⟩ := an_cells7 hX7
    obtain ⟨⟨q0, q1, q2⟩, v0, v1, v2⟩ := cells3 hQ7
    have hlX7 := blk_lt hX7
    have hlQ7 := blk_lt hQ7
    have hX8 := blk_set hX7 2 (.int .i64 (rf : Nat))
    have hG8 := grownX_trans hG7 (grown_set w7 X 2 (.int .i64 (rf : Nat)))
    have HX8 := hide hX8
    have HG8 := hide hG8
    clear hX7 hQ7 hG7 hX8 hG8 hb7 HX6 HQ6 HG6 KRf
    have hQ8 := (unhide HQr).grown (unhide HG8) (unhide HX) (by decide)
    have HQ8 := hide hQ8
    clear hQ8
    by_cases c0 : rf = 0
    · subst c0
      have eT := unhide HTk
      rw [if_pos rfl] at eT
      have HTk2 := hide eT
      have kl := look_m X N id fl lim (some ⟨g, o, none⟩) c1 [⟨qn, qt, qc⟩] fo l al cl ⟨qn, qt, qc⟩ (w7.setCell ⟨X, 2, none⟩ (.int .i64 ((0 : Nat) : Int))) (unhide HX8) ((unhide HE).below (grown_low (unhide HG8) hN hlt)) hN hl hz (unhide HQ8) (by show 1 ≤ c1; omega) (unhide HQz1) hid hfl hlim (by show qn.size ≤ _; omega)
      have KL := hide kl
      clear eT kl HTk
      go_wp2_with fail
      refine (unhide KL).mono ?_
      rintro e w9 ⟨rfl, hR9, hG9⟩
      have hG10 := grownX_trans (unhide HG8) hG9
      rw [← unhide HTk2] at hR9
      have HR9 := hide hR9
      have HG10 := hide hG10
      clear hR9 hG9 hG10
      go_wp2_with fail
      go_end0
      exact ⟨rfl, unhide HR9, unhide HG10⟩
    · have f3 : ((rf : Int) == 0) = false := beq_eq_false_iff_ne.2 (by omega)
      have eT := unhide HTk
      rw [if_neg c0] at eT
      have HTk2 := hide eT
      clear eT HTk c0
      go_wp2_with fail
      go_end0
      refine ⟨rfl, ?_, unhide HG8⟩
      rw [unhide HTk2]
      exact ⟨some ⟨g, o, none⟩, c1, none, 0, unhide HX8, (unhide HQ8).row, by show 1 ≤ c1; omega, unhide HQz1, fun i hi => absurd hi (Nat.not_lt_zero i), sets_nil, Nat.zero_le _, hid, hfl, hrf16, hlim⟩
  · have hT := take_not id fl m l stream cq
    rw [unhide HFo, unhide HC, unhide HLm] at hT
    have f1 : ((m.q.length : Int) != 1) = true := by rw [bne_iff_ne]; omega
    have HTk := hide hT
    clear hT cq
    go_wp2_with fail
    refine bodyPost_ret (results_none rfl _ _ _) rfl ?_
    refine ⟨rfl, ?_, grownX_trans (unhide HG4) (grown_set _ X 2 _)⟩
    rw [unhide HTk]
    exact ⟨none, 0, none, 0, blk_set (unhide HX4) 2 (.int .i64 1), fun h => absurd rfl h, Nat.le_refl _, ques_nil, fun i hi => absurd hi (Nat.not_lt_zero i), sets_nil, Nat.zero_le _, hid, hfl, by show 1 ≤ 16; omega, hlim⟩

end Go.Proofs.YtdhobdmhnocbgaaGreat
