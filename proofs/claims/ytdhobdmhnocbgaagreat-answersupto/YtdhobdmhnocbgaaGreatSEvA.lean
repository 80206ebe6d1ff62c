/-
  News and entries in memory: rows of seven and of eight cells; rows of the call's own.
-/
import Derived.Test.YtdhobdmhnocbgaaGreatSMwC
import Derived.Test.YtdhobdmhnocbgaaGreatSMeC
import Derived.Test.YtdhobdmhnocbgaaGreatSRefD
import Derived.Test.YtdhobdmhnocbgaaGreatSOnrow
import Derived.Deep.LoopGhost
import Derived.Deep.DeepCutAuto
namespace Go.Proofs.YtdhobdmhnocbgaaGreat
open Go.RowKit Zr

theorem Tryz.info48 : (Tryz.prog.info? 48).map (fun i => (i.zero, i.size, i.bytes)) = some (some (.agg #[.int .i64 0, .string ⟨#[]⟩, .int .i64 0, .string ⟨#[]⟩, .int .i64 0, .string ⟨#[]⟩, .string ⟨#[]⟩]), 7, 88) := by kernel_rfl
theorem Tryz.info164 : (Tryz.prog.info? 164).map (fun i => (i.zero, i.size, i.bytes)) = some (some (.agg #[.string ⟨#[]⟩, .int .i64 0, .string ⟨#[]⟩, .int .i64 0, .string ⟨#[]⟩, .int .i64 0, .string ⟨#[]⟩, .string ⟨#[]⟩]), 8, 104) := by kernel_rfl

/-- The cells of one. -/
def ev7 (x : Ev) : List Value := [.int .i64 x.kind, .string x.node, .int .i64 x.inc, .string x.addr, .int .i64 x.port, .string x.text, .string x.alias]
def en8 (x : En) : List Value := .string x.key :: ev7 x.ev
def enC (l : List En) : List Value := l.flatMap en8

theorem evC_eq (l : List Ev) : evC l = l.flatMap ev7 := rfl
theorem evC_append (l m : List Ev) : evC (l ++ m) = evC l ++ evC m := by unfold evC; rw [List.flatMap_append]
theorem enC_append (l m : List En) : enC (l ++ m) = enC l ++ enC m := by unfold enC; rw [List.flatMap_append]
theorem evC_push (l : List Ev) (x : Ev) : evC (l ++ [x]) = evC l ++ [.int .i64 x.kind, .string x.node, .int .i64 x.inc, .string x.addr, .int .i64 x.port, .string x.text, .string x.alias] := by rw [evC_append]; rfl
theorem enC_push (l : List En) (x : En) : enC (l ++ [x]) = enC l ++ [.string x.key, .int .i64 x.ev.kind, .string x.ev.node, .int .i64 x.ev.inc, .string x.ev.addr, .int .i64 x.ev.port, .string x.ev.text, .string x.ev.alias] := by rw [enC_append]; rfl
theorem evC_len : ∀ l : List Ev, (evC l).length = l.length * 7
  | [] => rfl
  | x :: l => by rw [evC_eq, List.flatMap_cons, List.length_append, ← evC_eq, evC_len l, List.length_cons]; show 7 + _ = _; omega
theorem enC_len : ∀ l : List En, (enC l).length = l.length * 8
  | [] => rfl
  | x :: l => by show (en8 x ++ enC l).length = _; rw [List.length_append, enC_len l, List.length_cons]; show 8 + _ = _; omega

theorem evC_one (l : List Ev) : ∀ v ∈ evC l, v.oneCell' = true := by
  intro v hv
  unfold evC at hv
  obtain ⟨x, _, hx⟩ := List.mem_flatMap.1 hv
  simp at hx
  rcases hx with rfl | rfl | rfl | rfl | rfl | rfl | rfl <;> rfl

theorem wide_at {α : Type} (f : α → List Value) (k : Nat) (hk : ∀ x, (f x).length = k) : ∀ (l : List α) (i : Nat) (h : i < l.length) (j : Nat), j < k → (l.flatMap f)[i * k + j]? = (f l[i])[j]?
  | [], i, h, _, _ => by simp at h
  | x :: l, 0, _, j, hj => by
    rw [List.flatMap_cons, Nat.zero_mul, Nat.zero_add, List.getElem?_append_left (by rw [hk]; exact hj)]
    rfl
  | x :: l, i + 1, h, j, hj => by
    rw [List.flatMap_cons, List.getElem?_append_right (by rw [hk, Nat.add_mul]; omega), hk]
    have e : (i + 1) * k + j - k = i * k + j := by rw [Nat.add_mul]; omega
    rw [e, wide_at f k hk l i (by simpa using h) j hj]
    rfl

theorem ev_cell (l : List Ev) (i : Nat) (h : i < l.length) (j : Nat) (hj : j < 7) : (evC l)[i * 7 + j]? = (ev7 l[i])[j]? := wide_at ev7 7 (fun _ => rfl) l i h j hj
theorem en_cell (l : List En) (i : Nat) (h : i < l.length) (j : Nat) (hj : j < 8) : (enC l)[i * 8 + j]? = (en8 l[i])[j]? := wide_at en8 8 (fun _ => rfl) l i h j hj

/-- A member of a row of news. -/
theorem row_e {w : World} {N : Nat} {a : Option Addr} {l : List Ev} (h : RowAt w N a (evC l)) (i : Nat) (hi : i < l.length) : ∃ b o, a = some ⟨b, o, none⟩ ∧ b < N ∧
    w.cell? ⟨b, o + i * 7, none⟩ = some (.int .i64 l[i].kind) ∧ w.cell? ⟨b, o + i * 7 + 1, none⟩ = some (.string l[i].node) ∧ w.cell? ⟨b, o + i * 7 + 2, none⟩ = some (.int .i64 l[i].inc) ∧
    w.cell? ⟨b, o + i * 7 + 3, none⟩ = some (.string l[i].addr) ∧ w.cell? ⟨b, o + i * 7 + 4, none⟩ = some (.int .i64 l[i].port) ∧ w.cell? ⟨b, o + i * 7 + 5, none⟩ = some (.string l[i].text) ∧ w.cell? ⟨b, o + i * 7 + 6, none⟩ = some (.string l[i].alias) := by
  obtain ⟨b, o, h1, h2, h3⟩ := h (fun e => by have := evC_len l; rw [e] at this; simp at this; omega)
  exact ⟨b, o, h1, h2, h3 _ _ (ev_cell l i hi 0 (by omega)), h3 _ _ (ev_cell l i hi 1 (by omega)), h3 _ _ (ev_cell l i hi 2 (by omega)), h3 _ _ (ev_cell l i hi 3 (by omega)), h3 _ _ (ev_cell l i hi 4 (by omega)), h3 _ _ (ev_cell l i hi 5 (by omega)), h3 _ _ (ev_cell l i hi 6 (by omega))⟩

theorem row_n {w : World} {N : Nat} {a : Option Addr} {l : List En} (h : RowAt w N a (enC l)) (i : Nat) (hi : i < l.length) : ∃ b o, a = some ⟨b, o, none⟩ ∧ b < N ∧
    w.cell? ⟨b, o + i * 8, none⟩ = some (.string l[i].key) ∧ w.cell? ⟨b, o + i * 8 + 1, none⟩ = some (.int .i64 l[i].ev.kind) ∧ w.cell? ⟨b, o + i * 8 + 2, none⟩ = some (.string l[i].ev.node) ∧ w.cell? ⟨b, o + i * 8 + 3, none⟩ = some (.int .i64 l[i].ev.inc) ∧
    w.cell? ⟨b, o + i * 8 + 4, none⟩ = some (.string l[i].ev.addr) ∧ w.cell? ⟨b, o + i * 8 + 5, none⟩ = some (.int .i64 l[i].ev.port) ∧ w.cell? ⟨b, o + i * 8 + 6, none⟩ = some (.string l[i].ev.text) ∧ w.cell? ⟨b, o + i * 8 + 7, none⟩ = some (.string l[i].ev.alias) := by
  obtain ⟨b, o, h1, h2, h3⟩ := h (fun e => by have := enC_len l; rw [e] at this; simp at this; omega)
  exact ⟨b, o, h1, h2, h3 _ _ (en_cell l i hi 0 (by omega)), h3 _ _ (en_cell l i hi 1 (by omega)), h3 _ _ (en_cell l i hi 2 (by omega)), h3 _ _ (en_cell l i hi 3 (by omega)), h3 _ _ (en_cell l i hi 4 (by omega)), h3 _ _ (en_cell l i hi 5 (by omega)), h3 _ _ (en_cell l i hi 6 (by omega)), h3 _ _ (en_cell l i hi 7 (by omega))⟩

/-- An own row is read as any other. -/
theorem owns_rowAt {w : World} {N : Nat} {e : TypeId} {size : Nat} {a : Option Addr} {n c : Nat} {xs : List Value} (h : w.ownsRow N e size (.slice a n c) n xs) : RowAt w w.heap.size a xs := by
  intro hx
  have hn : 0 < n := by
    rcases Nat.eq_zero_or_pos n with h0 | h0
    · subst h0
      exact absurd (List.eq_nil_of_length_eq_zero (by simpa using h.1)) hx
    · exact h0
  obtain ⟨g, rfl, _, hg, _⟩ := owns_form h hn
  exact ⟨g, 0, rfl, hg, fun j u hu => by rw [Nat.zero_add]; exact owns_cell h j u hu⟩

theorem owns_below {w w' : World} {N : Nat} {e : TypeId} {size : Nat} {v : Value} {n : Nat} {xs : List Value} (h : w.ownsRow N e size v n xs) (hb : Below w.heap.size w w') : w'.ownsRow N e size v n xs :=
  h.kept (grown_below (row := none) hb) (by
    cases e : v.ownBlock with
    | none => exact .inl rfl
    | some g => exact .inr (by simp))

theorem owns_lower {w : World} {N M : Nat} (h : N ≤ M) {e : TypeId} {size : Nat} {v : Value} {n : Nat} {xs : List Value} (ho : w.ownsRow M e size v n xs) : w.ownsRow N e size v n xs := by
  refine ⟨ho.1, ?_⟩
  rcases ho.2 with hn | ⟨g, cap, cur, hv, hb, rest⟩
  · exact .inl hn
  · exact .inr ⟨g, cap, cur, hv, by omega, rest⟩

/-- An append onto a row that lies from M on leaves what is below M. -/
theorem below_append {w w' : World} {M : Nat} {e : TypeId} {size : Nat} {v : Value} {n : Nat} {xs : List Value} (h : w.ownsRow M e size v n xs) (hg : w.grownBy w' v.ownBlock) (hM : M ≤ w.heap.size) : Below M w w' :=
  ⟨hg.os, hg.tape, hg.output, hg.size, fun k hk => hg.block k (by omega) fun he => by have := (h.lt k he.symm).1; omega⟩

theorem heap_alloc_cell (w : World) (O : Obj) {b : Nat} (hb : b < w.heap.size) (k : Nat) : (w.alloc O).cell? ⟨b, k, none⟩ = w.cell? ⟨b, k, none⟩ :=
  ((Below.refl w.heap.size w).alloc (Nat.le_refl _) O).cell (p := ⟨b, k, none⟩) hb

theorem grown_cell {W w2 : World} {M : Nat} {e : TypeId} {size : Nat} {v : Value} {n : Nat} {xs : List Value} (h : W.ownsRow M e size v n xs) (hg : W.grownBy w2 v.ownBlock) {b : Nat} (hb : b < M) (hs : M ≤ W.heap.size) (k : Nat) : w2.cell? ⟨b, k, none⟩ = W.cell? ⟨b, k, none⟩ :=
  (below_append h hg hs).cell (p := ⟨b, k, none⟩) hb

theorem cell_seven_new (w : World) (B : Nat) (x0 x1 x2 x3 x4 x5 x6 : Value) (t : TypeId) (h : w.heap.size = B) : ∀ j u, [x0, x1, x2, x3, x4, x5, x6][j]? = some u → (w.alloc (.cells #[x0, x1, x2, x3, x4, x5, x6] t)).cell? ((⟨B, 0, none⟩ : Addr).add j) = some u := by
  subst h
  exact World.news_of_block (cs := #[x0, x1, x2, x3, x4, x5, x6]) (heap_alloc_new w _)
theorem cell_eight_new (w : World) (B : Nat) (x0 x1 x2 x3 x4 x5 x6 x7 : Value) (t : TypeId) (h : w.heap.size = B) : ∀ j u, [x0, x1, x2, x3, x4, x5, x6, x7][j]? = some u → (w.alloc (.cells #[x0, x1, x2, x3, x4, x5, x6, x7] t)).cell? ((⟨B, 0, none⟩ : Addr).add j) = some u := by
  subst h
  exact World.news_of_block (cs := #[x0, x1, x2, x3, x4, x5, x6, x7]) (heap_alloc_new w _)

theorem one7 {x0 x2 x4 : Int} {x1 x3 x5 x6 : ByteArray} : ∀ v ∈ ([.int .i64 x0, .string x1, .int .i64 x2, .string x3, .int .i64 x4, .string x5, .string x6] : List Value), v.oneCell' = true := by
  intro v hv
  simp at hv
  rcases hv with rfl | rfl | rfl | rfl | rfl | rfl | rfl <;> rfl
theorem one8 {x0 x2 x4 : Int} {k x1 x3 x5 x6 : ByteArray} : ∀ v ∈ ([.string k, .int .i64 x0, .string x1, .int .i64 x2, .string x3, .int .i64 x4, .string x5, .string x6] : List Value), v.oneCell' = true := by
  intro v hv
  simp at hv
  rcases hv with rfl | rfl | rfl | rfl | rfl | rfl | rfl | rfl <;> rfl

/-- The texts of news are no longer than anything can be. -/
def EvSized (l : List Ev) : Prop := ∀ i (h : i < l.length), l[i].node.size ≤ 4294967296 ∧ l[i].addr.size ≤ 4294967296 ∧ l[i].text.size ≤ 4294967296 ∧ l[i].alias.size ≤ 4294967296

theorem good_take (l : List Ev) (j : Nat) (h : j < l.length) : (goodE l[j] → goodL (l.take (j + 1)) = goodL (l.take j) ++ [l[j]]) ∧ (¬ goodE l[j] → goodL (l.take (j + 1)) = goodL (l.take j)) := by
  have e : l.take (j + 1) = l.take j ++ [l[j]] := List.take_succ_eq_append_getElem h
  rw [e]
  unfold goodL
  rw [List.filter_append]
  refine ⟨fun hg => ?_, fun hg => ?_⟩
  · rw [List.filter_cons_of_pos (by simpa using hg)]; rfl
  · rw [List.filter_cons_of_neg (by simpa using hg)]; simp
open Classical in
theorem good_len (l : List Ev) (j : Nat) : (goodL (l.take j)).length ≤ j := by
  unfold goodL
  have := List.length_filter_le (fun e => decide (goodE e)) (l.take j)
  rw [List.length_take] at this
  omega

end Go.Proofs.YtdhobdmhnocbgaaGreat
