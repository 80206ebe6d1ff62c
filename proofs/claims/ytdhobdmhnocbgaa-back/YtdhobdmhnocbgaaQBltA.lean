/-
  What Built holds in memory: the rolls, the message, its four lists.
-/
import Derived.Test.YtdhobdmhnocbgaaQRolF
import Derived.Test.YtdhobdmhnocbgaaQKeepB
import Derived.Test.YtdhobdmhnocbgaaQOnkeep
namespace Go.Proofs.Ytdhobdmhnocbgaa
open Go.RowKit Zr

def msgZ : Array Value := #[.int .i64 0, .int .i64 0, .slice none 0 0, .slice none 0 0, .slice none 0 0, .slice none 0 0]

/-- The result's block, the rolls', the message's. -/
structure BAt (w0 : World) (N : Nat) (a : Option Addr) (n c : Nat) (K : List ByteArray) (ms : Array Value) (w : World) : Prop where
  ro : Ro w N (N + 1) a n c K
  pa : w.heap[N]? = some (.cells msgZ 25 (0, 0))
  ma : w.heap[N + 2]? = some (.cells ms 25 (0, 0))
  be : Below N w0 w

section
variable {w0 w w1 : World} {N : Nat} {a : Option Addr} {n c : Nat} {K K' : List ByteArray} {ms : Array Value}

theorem BAt.lt (h : BAt w0 N a n c K ms w) : N + 2 < w.heap.size := blk_lt h.ma

theorem BAt.call (h : BAt w0 N a n c K ms w) (hr : Ro w1 N (N + 1) a n c K') (hf : RFrame N w w1) : BAt w0 N a n c K' ms w1 :=
  ⟨hr, hf.kind _ _ _ _ h.pa (by decide) (by decide) (by decide), hf.kind _ _ _ _ h.ma (by decide) (by decide) (by decide), h.be.trans (hf.below (by have := h.lt; omega))⟩

theorem BAt.set (h : BAt w0 N a n c K ms w) (o : Nat) (v : Value) : BAt w0 N a n c K (ms.setIfInBounds o v) (w.setCell ⟨N + 2, o, none⟩ v) :=
  ⟨h.ro.set h.ma (by decide) (by decide) (by omega) o v, (blk_set_other (by omega) _ _).trans h.pa, blk_set h.ma o v, h.be.setCell (p := ⟨N + 2, o, none⟩) (show N ≤ N + 2 by omega) v⟩

theorem BAt.below (h : BAt w0 N a n c K ms w) (hb : Below w.heap.size w w1) : BAt w0 N a n c K ms w1 :=
  ⟨h.ro.below hb, (hb.block _ (blk_lt h.pa)).trans h.pa, (hb.block _ (blk_lt h.ma)).trans h.ma, h.be.trans (hb.mono (by have := h.lt; omega))⟩

theorem BAt.alloc (h : BAt w0 N a n c K ms w) (O : Obj) : BAt w0 N a n c K ms (w.alloc O) := h.below ((Below.refl _ _).alloc (Nat.le_refl _) O)
theorem BAt.drew (h : BAt w0 N a n c K ms w) : BAt w0 N a n c K ms w.drew := h.below ⟨rfl, rfl, rfl, Nat.le_refl _, fun _ _ => rfl⟩

theorem BAt.app (h : BAt w0 N a n c K ms w) {B : Nat} {e : TypeId} {size : Nat} {v : Value} {m : Nat} {xs : List Value} (hown : w.ownsRow B e size v m xs) (hB : N ≤ B) (hg : w.grownBy w1 v.ownBlock) (h1 : e ≠ 9) (h2 : e ≠ 57) (h3 : e ≠ 25) : BAt w0 N a n c K ms w1 := by
  refine ⟨h.ro.frame (owns_base hB hown) hg h1 h2, blk_kind hown hg h.pa h3, blk_kind hown hg h.ma h3, h.be.trans ⟨hg.os, hg.tape, hg.output, hg.size, fun k hk => hg.block k (by have := h.lt; omega) (fun e => ?_)⟩⟩
  have := (hown.lt k e.symm).1
  omega

/-- A store into a block of another kind. -/
theorem BAt.other (h : BAt w0 N a n c K ms w) {X : Nat} {cs : Array Value} {t : TypeId} (hX : w.heap[X]? = some (.cells cs t (0, 0))) (hN : N + 2 < X) (h1 : 9 ≠ t) (h2 : 57 ≠ t) (o : Nat) (v : Value) : BAt w0 N a n c K ms (w.setCell ⟨X, o, none⟩ v) :=
  ⟨h.ro.set hX h1 h2 (by omega) o v, (blk_set_other (by omega) _ _).trans h.pa, (blk_set_other (by omega) _ _).trans h.ma, h.be.setCell (p := ⟨X, o, none⟩) (show N ≤ X by omega) v⟩

theorem bat_start {W : World} (hraw : RawAt W W.heap.size a n) (hn : n ≤ 9223372036854775807) :
    BAt W W.heap.size a n c [] msgZ (((W.alloc (.cells msgZ 25)).alloc (.cells #[.slice a n c, .int .i64 0, .slice none 0 0] 57)).alloc (.cells msgZ 25)) := by
  obtain ⟨k1, k2⟩ := two_new W (.cells msgZ 25) (.cells #[.slice a n c, .int .i64 0, .slice none 0 0] 57)
  have b1 := (Below.refl W.heap.size W).alloc (Nat.le_refl _) (.cells msgZ 25)
  have b2 := b1.alloc (by simp) (.cells #[.slice a n c, .int .i64 0, .slice none 0 0] 57)
  have b3 := b2.alloc (by simp; omega) (.cells msgZ 25)
  have k3 := heap_alloc_new ((W.alloc (.cells msgZ 25)).alloc (.cells #[.slice a n c, .int .i64 0, .slice none 0 0] 57)) (.cells msgZ 25)
  rw [show ((W.alloc (.cells msgZ 25)).alloc (.cells #[.slice a n c, .int .i64 0, .slice none 0 0] 57)).heap.size = W.heap.size + 2 by simp] at k3
  generalize ((W.alloc (.cells msgZ 25)).alloc (.cells #[.slice a n c, .int .i64 0, .slice none 0 0] 57)) = W2 at *
  have b4 := (Below.refl W2.heap.size W2).alloc (Nat.le_refl _) (.cells msgZ 25)
  refine ⟨⟨0, none, 0, (b4.block _ (blk_lt k2)).trans k2, by omega, by omega, hn, World.ownsRow_nil _ _ _ _, hraw.below b3, fun s hs => by simp at hs⟩, (b4.block _ (blk_lt k1)).trans k1, k3, b3⟩

end

/-- A question that is being made, beside the row of those that are. -/
structure QAt (w0 : World) (N : Nat) (a : Option Addr) (n c : Nat) (K : List ByteArray) (ms : Array Value) (v : Value) (j : Nat) (l : List QI) (Q : Nat) (qs : Array Value) (w : World) : Prop where
  b : BAt w0 N a n c K ms w
  o : w.ownsRow N 74 3 v j (qcI l)
  q : w.heap[Q]? = some (.cells qs 74 (0, 0))
  ne : v.ownBlock ≠ some Q
  lo : N + 2 < Q

section
variable {w0 w w1 : World} {N : Nat} {a : Option Addr} {n c : Nat} {K K' : List ByteArray} {ms : Array Value} {v : Value} {j : Nat} {l : List QI} {Q : Nat} {qs : Array Value}

theorem QAt.call (h : QAt w0 N a n c K ms v j l Q qs w) (hr : Ro w1 N (N + 1) a n c K') (hf : RFrame N w w1) : QAt w0 N a n c K' ms v j l Q qs w1 :=
  ⟨h.b.call hr hf, hf.owns h.o (by decide) (by decide) (by decide), hf.kind _ _ _ _ h.q (by decide) (by decide) (by decide), h.ne, h.lo⟩

theorem QAt.set (h : QAt w0 N a n c K ms v j l Q qs w) (o : Nat) (x : Value) : QAt w0 N a n c K ms v j l Q (qs.setIfInBounds o x) (w.setCell ⟨Q, o, none⟩ x) :=
  ⟨h.b.other h.q h.lo (by decide) (by decide) o x, h.o.kept (grown_set _ _ _ _) (.inr h.ne), blk_set h.q o x, h.ne, h.lo⟩

theorem qat_start (h : BAt w0 N a n c K ms w) (ho : w.ownsRow N 74 3 v j (qcI l)) (cs : Array Value) : QAt w0 N a n c K ms v j l w.heap.size cs (w.alloc (.cells cs 74)) :=
  ⟨h.alloc _, ho.alloc _, heap_alloc_new _ _, fun e => by have := (ho.lt _ e).2; omega, h.lt⟩

end

/-- The message and the rows of its lists. -/
structure FAt (w0 : World) (N : Nat) (a : Option Addr) (n c : Nat) (K : List ByteArray) (id fl : Nat) (vq : Value) (nq : Nat) (lq : List QI) (va : Value) (na : Nat) (la : List RI) (vu : Value) (nu : Nat) (lu : List RI) (vx : Value) (nx : Nat) (lx : List RI) (w : World) : Prop where
  b : BAt w0 N a n c K #[.int .i64 id, .int .i64 fl, vq, va, vu, vx] w
  rq : w.ownsRow N 74 3 vq nq (qcI lq)
  ra : w.ownsRow N 86 5 va na (rcI la)
  ru : w.ownsRow N 86 5 vu nu (rcI lu)
  rx : w.ownsRow N 86 5 vx nx (rcI lx)
  au : ∀ g, va.ownBlock = some g → vu.ownBlock ≠ some g
  ax : ∀ g, va.ownBlock = some g → vx.ownBlock ≠ some g

theorem owns_below {w w1 : World} {N : Nat} {e : TypeId} {size : Nat} {v : Value} {n : Nat} {xs : List Value} (h : w.ownsRow N e size v n xs) (hb : Below w.heap.size w w1) : w1.ownsRow N e size v n xs := by
  refine ⟨h.1, ?_⟩
  rcases h.2 with hn | ⟨g, cap, cur, hv, hbg, hg, rest⟩
  · exact .inl hn
  · exact .inr ⟨g, cap, cur, hv, hbg, (hb.block g (blk_lt hg)).trans hg, rest⟩

section
variable {w0 w w1 : World} {N : Nat} {a : Option Addr} {n c : Nat} {K K' : List ByteArray} {id fl : Nat} {vq : Value} {nq : Nat} {lq : List QI} {va : Value} {na : Nat} {la : List RI} {vu : Value} {nu : Nat} {lu : List RI} {vx : Value} {nx : Nat} {lx : List RI} {v : Value} {m : Nat} {l : List RI}

theorem FAt.call (h : FAt w0 N a n c K id fl vq nq lq va na la vu nu lu vx nx lx w) (hr : Ro w1 N (N + 1) a n c K') (hf : RFrame N w w1) : FAt w0 N a n c K' id fl vq nq lq va na la vu nu lu vx nx lx w1 :=
  ⟨h.b.call hr hf, hf.owns h.rq (by decide) (by decide) (by decide), hf.owns h.ra (by decide) (by decide) (by decide), hf.owns h.ru (by decide) (by decide) (by decide), hf.owns h.rx (by decide) (by decide) (by decide), h.au, h.ax⟩

theorem FAt.below (h : FAt w0 N a n c K id fl vq nq lq va na la vu nu lu vx nx lx w) (hb : Below w.heap.size w w1) : FAt w0 N a n c K id fl vq nq lq va na la vu nu lu vx nx lx w1 :=
  ⟨h.b.below hb, owns_below h.rq hb, owns_below h.ra hb, owns_below h.ru hb, owns_below h.rx hb, h.au, h.ax⟩

theorem FAt.newA (h : FAt w0 N a n c K id fl vq nq lq va na la vu nu lu vx nx lx w) (hF : FAt w0 N a n c K' id fl vq nq lq va na la vu nu lu vx nx lx w1) (ho : w1.ownsRow w.heap.size 86 5 v m (rcI l)) : FAt w0 N a n c K' id fl vq nq lq v m l vu nu lu vx nx lx (w1.setCell ⟨N + 2, 3, none⟩ v) := by
  have hN := h.b.lt
  have f1 : ∀ g, v.ownBlock = some g → vu.ownBlock ≠ some g := fun g e1 e2 => by have := (ho.lt g e1).1; have := (h.ru.lt g e2).2; omega
  have f2 : ∀ g, v.ownBlock = some g → vx.ownBlock ≠ some g := fun g e1 e2 => by have := (ho.lt g e1).1; have := (h.rx.lt g e2).2; omega
  exact ⟨hF.b.set 3 v, owns_set_kind hF.rq hF.b.ma (by decide) 3 v, owns_set_kind (owns_base (by omega) ho) hF.b.ma (by decide) 3 v, owns_set_kind hF.ru hF.b.ma (by decide) 3 v, owns_set_kind hF.rx hF.b.ma (by decide) 3 v, f1, f2⟩

theorem FAt.newU (h : FAt w0 N a n c K id fl vq nq lq va na la vu nu lu vx nx lx w) (hF : FAt w0 N a n c K' id fl vq nq lq va na la vu nu lu vx nx lx w1) (ho : w1.ownsRow w.heap.size 86 5 v m (rcI l)) : FAt w0 N a n c K' id fl vq nq lq va na la v m l vx nx lx (w1.setCell ⟨N + 2, 4, none⟩ v) := by
  have hN := h.b.lt
  have f1 : ∀ g, va.ownBlock = some g → v.ownBlock ≠ some g := fun g e1 e2 => by have := (ho.lt g e2).1; have := (h.ra.lt g e1).2; omega
  exact ⟨hF.b.set 4 v, owns_set_kind hF.rq hF.b.ma (by decide) 4 v, owns_set_kind hF.ra hF.b.ma (by decide) 4 v, owns_set_kind (owns_base (by omega) ho) hF.b.ma (by decide) 4 v, owns_set_kind hF.rx hF.b.ma (by decide) 4 v, f1, h.ax⟩

theorem FAt.newX (h : FAt w0 N a n c K id fl vq nq lq va na la vu nu lu vx nx lx w) (hF : FAt w0 N a n c K' id fl vq nq lq va na la vu nu lu vx nx lx w1) (ho : w1.ownsRow w.heap.size 86 5 v m (rcI l)) : FAt w0 N a n c K' id fl vq nq lq va na la vu nu lu v m l (w1.setCell ⟨N + 2, 5, none⟩ v) := by
  have hN := h.b.lt
  have f1 : ∀ g, va.ownBlock = some g → v.ownBlock ≠ some g := fun g e1 e2 => by have := (ho.lt g e2).1; have := (h.ra.lt g e1).2; omega
  exact ⟨hF.b.set 5 v, owns_set_kind hF.rq hF.b.ma (by decide) 5 v, owns_set_kind hF.ra hF.b.ma (by decide) 5 v, owns_set_kind hF.ru hF.b.ma (by decide) 5 v, owns_set_kind (owns_base (by omega) ho) hF.b.ma (by decide) 5 v, h.au, f1⟩

/-- An append onto the answers. -/
theorem FAt.more (h : FAt w0 N a n c K id fl vq nq lq va na la vu nu lu vx nx lx w) (ho : w1.ownsRow N 86 5 v m (rcI l)) (hg : w.grownBy w1 va.ownBlock) (hat : v.ownBlock = va.ownBlock ∨ v.ownBlock = some w.heap.size) : FAt w0 N a n c K id fl vq nq lq v m l vu nu lu vx nx lx (w1.setCell ⟨N + 2, 3, none⟩ v) := by
  have hb := h.b.app h.ra (Nat.le_refl _) hg (by decide) (by decide) (by decide)
  have kq := owns_kind h.ra hg h.rq (by decide)
  have keep : ∀ (y : Value) (k : Nat) (xs : List Value), w.ownsRow N 86 5 y k xs → (∀ g, va.ownBlock = some g → y.ownBlock ≠ some g) → w1.ownsRow N 86 5 y k xs := fun y k xs hy hne => by
    refine hy.kept hg ?_
    cases e : y.ownBlock with
    | none => exact .inl rfl
    | some g => exact .inr (fun e2 => hne g e2.symm e)
  have ku := keep _ _ _ h.ru h.au
  have kx := keep _ _ _ h.rx h.ax
  have ne : ∀ (y : Value) (k : Nat) (xs : List Value), w.ownsRow N 86 5 y k xs → (∀ g, va.ownBlock = some g → y.ownBlock ≠ some g) → ∀ g, v.ownBlock = some g → y.ownBlock ≠ some g := fun y k xs hy hne g e1 e2 => by
    rcases hat with e | e
    · exact hne g (e ▸ e1) e2
    · rw [e] at e1
      cases e1
      have := (hy.lt _ e2).2
      omega
  exact ⟨hb.set 3 v, owns_set_kind kq hb.ma (by decide) 3 v, owns_set_kind ho hb.ma (by decide) 3 v, owns_set_kind ku hb.ma (by decide) 3 v, owns_set_kind kx hb.ma (by decide) 3 v, ne _ _ _ h.ru h.au, ne _ _ _ h.rx h.ax⟩

end

theorem rcI_len5 (l : List RI) : (rcI l).length = l.length * 5 := by
  induction l with
  | nil => rfl
  | cons x l ih => show (_ :: _ :: _ :: _ :: _ :: rcI l).length = _; simp only [List.length_cons, ih]; omega
theorem qcI_len3 (l : List QI) : (qcI l).length = l.length * 3 := by
  induction l with
  | nil => rfl
  | cons x l ih => show (_ :: _ :: _ :: qcI l).length = _; simp only [List.length_cons, ih]; omega
theorem rcI_cells (l : List RI) : ∀ v ∈ rcI l, v.oneCell' = true := by
  intro v hv
  obtain ⟨x, _, hx⟩ := List.mem_flatMap.1 hv
  simp at hx
  rcases hx with rfl | rfl | rfl | rfl | rfl <;> rfl
theorem rcI_cut (l : List RI) (k : Nat) : rcI l = rcI (l.take k) ++ rcI (l.drop k) := by rw [← rcI_append, List.take_append_drop]

theorem rcI_put (A B : List RI) (x : RI) : rcI A ++ [.string x.name, .int .i64 x.ty, .int .i64 x.cl, .int .i64 x.ttl, .string x.data] ++ rcI B = rcI (A ++ x :: B) := by
  rw [rcI_append, List.append_assoc]
  rfl

theorem owns_len {w : World} {N : Nat} {v : Value} {n : Nat} {l : List RI} (h : w.ownsRow N 86 5 v n (rcI l)) : l.length = n := by
  have := h.1
  rw [rcI_len5] at this
  omega
theorem owns_lenQ {w : World} {N : Nat} {v : Value} {n : Nat} {l : List QI} (h : w.ownsRow N 74 3 v n (qcI l)) : l.length = n := by
  have := h.1
  rw [qcI_len3] at this
  omega

/-- An append onto a row that is newer than W. -/
theorem below_app {W w1 w2 : World} (h : Below W.heap.size W w1) {e : TypeId} {size : Nat} {v : Value} {n : Nat} {xs : List Value} (hown : w1.ownsRow W.heap.size e size v n xs) (hg : w1.grownBy w2 v.ownBlock) : Below W.heap.size W w2 :=
  h.trans ⟨hg.os, hg.tape, hg.output, hg.size, fun k hk => hg.block k (by have := h.size; omega) (fun e => by have := (hown.lt k e.symm).1; omega)⟩

/-- A part of a row, to be appended. -/
theorem src_take {w : World} {N : Nat} {ax : Option Addr} {nx cx : Nat} {l : List RI} (h : w.ownsRow N 86 5 (.slice ax nx cx) nx (rcI l)) (k : Nat) (hk : k ≤ nx) : Src Try.prog 5 23 (.slice ax k cx) k (rcI (l.take k)) w := by
  have hl := owns_len h
  rcases h.2 with ⟨h0, _⟩ | ⟨g, cap, cur, h0, _⟩
  · cases h0
    have : k = 0 := by omega
    subst this
    exact Src.ofNil _ Try.underlying23 0
  · cases h0
    refine Src.ofSlice _ Try.underlying23 ⟨g, 0, none⟩ k _ _ (by rw [rcI_len5, List.length_take]; congr 1; omega) (fun j u hu => ?_) (fun x hx => rcI_cells _ x hx)
    refine h.cells (g := g) rfl j u ?_
    rw [rcI_cut l k, List.getElem?_append_left (List.getElem?_eq_some_iff.1 hu).1]
    exact hu

theorem src_drop {w : World} {N : Nat} {g nx cx : Nat} {l : List RI} (h : w.ownsRow N 86 5 (.slice (some ⟨g, 0, none⟩) nx cx) nx (rcI l)) (k : Nat) (hk : k ≤ nx) (cy : Nat) : Src Try.prog 5 23 (.slice (some ⟨g, k * 5, none⟩) (nx - k) cy) (nx - k) (rcI (l.drop k)) w := by
  have hl := owns_len h
  refine Src.ofSlice _ Try.underlying23 ⟨g, k * 5, none⟩ (nx - k) _ _ (by rw [rcI_len5, List.length_drop]; congr 1; omega) (fun j u hu => ?_) (fun x hx => rcI_cells _ x hx)
  have e := h.cells (g := g) rfl (k * 5 + j) u (by
    rw [rcI_cut l k, List.getElem?_append_right (by rw [rcI_len5, List.length_take]; omega), rcI_len5, List.length_take]
    rw [show k * 5 + j - min k l.length * 5 = j by rw [Nat.min_eq_left (by omega)]; omega]
    exact hu)
  rw [Addr.add_lit] at e ⊢
  rw [show k * 5 + j = k * 5 + j from rfl]
  simpa using e

/-- No more is to be appended. -/
theorem src_none {w : World} (a : Addr) (cy : Nat) : Src Try.prog 5 23 (.slice (some a) 0 cy) 0 [] w :=
  Src.ofSlice _ Try.underlying23 a 0 _ _ rfl (fun j u hu => by simp at hu) (fun x hx => by simp at hx)

end Go.Proofs.Ytdhobdmhnocbgaa
