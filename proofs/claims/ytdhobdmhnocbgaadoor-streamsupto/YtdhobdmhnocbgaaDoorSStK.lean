/-
  Walks over the law: a chunk goes into a feed.
-/
import Derived.Test.YtdhobdmhnocbgaaDoorSStJ
import Derived.Test.YtdhobdmhnocbgaaDoorSItoa
import Derived.Test.YtdhobdmhnocbgaaDoorSAnyB
namespace Go.Proofs.YtdhobdmhnocbgaaDoor
open Go.RowKit Zr

theorem cell_in2 {w : World} {a : Addr} {v : Value} (h : w.cell? a = some v) : a.block < w.heap.size := by
  rcases Nat.lt_or_ge a.block w.heap.size with hb | hb
  · exact hb
  · simp [World.cell?, hb] at h

/-- A list of texts in a block of its own that is not A. -/
def RowS (w : World) (A : Nat) (a : Option Addr) (T : List ByteArray) : Prop :=
  T ≠ [] → ∃ (b : Nat) (cs : Array Value) (z : Nat × Nat), a = some ⟨b, 0, none⟩ ∧ b ≠ A ∧ w.heap[b]? = some (.cells cs 9 z) ∧ ∀ (j : Nat) (u : Value), (stC T)[j]? = some u → cs[j]? = some u

theorem RowS.fr {w w' : World} {A : Nat} {a : Option Addr} {T : List ByteArray} (h : RowS w A a T) (hf : SFr w.heap.size A w w') : RowS w' A a T := fun ht => by
  obtain ⟨b, cs, z, h1, h2, h3, h4⟩ := h ht
  exact ⟨b, cs, z, h1, h2, hf b cs z (blk_lt h3) h2 h3, h4⟩

theorem RowS.row {w : World} {A : Nat} {a : Option Addr} {T : List ByteArray} (h : RowS w A a T) : RowAt w w.heap.size a (stC T) := fun ht => by
  obtain ⟨b, cs, z, h1, h2, h3, h4⟩ := h (fun e => ht (by rw [e]; rfl))
  refine ⟨b, 0, h1, blk_lt h3, fun j u hu => ?_⟩
  rw [Nat.zero_add]
  simp only [World.cell?, h3]
  exact h4 j u hu

theorem RowS.app {w w' : World} {A N : Nat} {al : Option Addr} {T : List ByteArray} {ks : List Value} {vx : Value} {n : Nat} (h : RowS w A al T) (_hown : w.ownsRow N 9 1 vx n (stC T ++ ks)) (hg : w.grownBy w' vx.ownBlock)
    (hkeep : ∀ g, vx.ownBlock = some g → ∃ cs, w'.heap[g]? = some (.cells cs 9 (0, 0)) ∧ ∀ (j : Nat) (u : Value), (stC T ++ ks)[j]? = some u → cs[j]? = some u) : RowS w' A al T := fun ht => by
  obtain ⟨b, cs, z, e1, e2, e3, e4⟩ := h ht
  by_cases hb : vx.ownBlock = some b
  · obtain ⟨cs', k1, k2⟩ := hkeep b hb
    refine ⟨b, cs', (0, 0), e1, e2, k1, fun j u hu => k2 j u ?_⟩
    rw [List.getElem?_append_left (List.getElem?_eq_some_iff.1 hu).1]
    exact hu
  · exact ⟨b, cs, z, e1, e2, (hg.block b (blk_lt e3) (fun e => hb e.symm)).trans e3, e4⟩

theorem owns_rowS {w : World} {A N : Nat} {al : Option Addr} {n cl : Nat} {T : List ByteArray} (h : w.ownsRow N 9 1 (.slice al n cl) n (stC T)) (hA : A < N) : RowS w A al T := fun ht => by
  have hl := h.1
  rw [stC_len] at hl
  rcases h.2 with ⟨_, h2⟩ | ⟨g, cap, cur, h1, h2, h3, h4, h5, h6, h7⟩
  · exact absurd (List.eq_nil_of_length_eq_zero (by omega)) ht
  · injection h1 with i1 i2 i3
    refine ⟨g, cur, (0, 0), i1, by omega, h3, fun j u hu => ?_⟩
    have hj := (List.getElem?_eq_some_iff.1 hu).1
    rw [← h7, List.getElem?_take] at hu
    split at hu
    · simpa using hu
    · cases hu

theorem set_drop (mk : ByteArray) (L : List ByteArray) (j : Nat) (h : j < L.length) : (stC (List.replicate j mk ++ L.drop j)).set j (.string mk) = stC (List.replicate (j + 1) mk ++ L.drop (j + 1)) := by
  unfold stC
  rw [List.drop_eq_getElem_cons h, List.map_append, List.map_cons, List.set_append_right _ _ (by simp)]
  simp only [List.length_map, List.length_replicate, Nat.sub_self, List.set_cons_zero]
  rw [List.replicate_succ', List.map_append, List.map_append, List.append_assoc]
  rfl

def AlikeS (w : World) (A : Nat) (o1 o2 : List Value) (i : Nat) : Prop :=
  ∃ (a : Option Addr) (c : Nat) (a2 : Option Addr) (c2 : Nat) (T : List ByteArray), o1[i]? = some (.slice a T.length c) ∧ o2[i]? = some (.slice a2 T.length c2) ∧ T.length ≤ 67108864 ∧ RowS w A a T ∧ RowS w A a2 T

/-- What the law's struct holds between two pushes. -/
def Ls (w : World) (M B n m : Nat) : Prop :=
  ∃ (X A G cx ca cg : Nat) (xs ts gs : Array Value) (R : Nat → Nat) (p : Nat → ByteArray) (v1 : Value) (o1 : List Value) (v2 : Value) (o2 : List Value),
    Lw w M B X A G cx ca cg xs ts gs R p v1 n o1 v2 n o2 ∧ (∀ k, k < 2 → xs[k]? = some (.pointer (some ⟨R k, 0, none⟩))) ∧ (∀ k, k < 2 → ts[k]? = some (.string (p k))) ∧ (∀ k, k < 2 → gs[k]? = some (.int .i64 ((cutP (p k) 0).1.length : Nat))) ∧
    R 0 ≠ R 1 ∧ (M ≤ B ∧ M ≤ A ∧ M ≤ G ∧ ∀ k, k < 2 → M ≤ R k) ∧ (p 0).size + (p 1).size ≤ m ∧ ∀ i, i < n → AlikeS w A o1 o2 i

theorem Ls.below {w w' : World} {M B n m : Nat} (h : Ls w M B n m) (hb : Below w.heap.size w w') : Ls w' M B n m := by
  obtain ⟨X, A, G, cx, ca, cg, xs, ts, gs, R, p, v1, o1, v2, o2, hl, hx, ha, hg, hR, hM, hp, hal⟩ := h
  refine ⟨X, A, G, cx, ca, cg, xs, ts, gs, R, p, v1, o1, v2, o2, hl.below hb, hx, ha, hg, hR, hM, hp, fun i hi => ?_⟩
  obtain ⟨a, c, a2, c2, T, q1, q2, q3, q4, q5⟩ := hal i hi
  exact ⟨a, c, a2, c2, T, q1, q2, q3, q4.fr (SFr.below hb), q5.fr (SFr.below hb)⟩

theorem Ls.less {w : World} {M B n m m' : Nat} (h : Ls w M B n m) (hm : m ≤ m') : Ls w M B n m' := by
  obtain ⟨X, A, G, cx, ca, cg, xs, ts, gs, R, p, v1, o1, v2, o2, hl, hx, ha, hg, hR, hM, hp, hal⟩ := h
  exact ⟨X, A, G, cx, ca, cg, xs, ts, gs, R, p, v1, o1, v2, o2, hl, hx, ha, hg, hR, hM, Nat.le_trans hp hm, hal⟩

theorem below_turn {M Z : Nat} {w w' : World} (h : w.grownBy w' (some Z)) (hZ : M ≤ Z) (hM : M ≤ w.heap.size) : Below M w w' :=
  ⟨h.os, h.tape, h.output, h.size, fun k hk => h.block k (Nat.lt_of_lt_of_le hk hM) fun e => by cases e; omega⟩

theorem below_drewB (N : Nat) (w : World) : Below N w w.drew := ⟨rfl, rfl, rfl, Nat.le_refl _, fun _ _ => rfl⟩
theorem below_drewNB (N : Nat) (w : World) (n : Nat) : Below N w (w.drewN n) := ⟨rfl, rfl, rfl, Nat.le_refl _, fun _ _ => rfl⟩

theorem owns_low {w : World} {N Z : Nat} {e : TypeId} {size : Nat} {v : Value} {n : Nat} {xs : List Value} (h : w.ownsRow N e size v n xs) (hZ : Z < N) (j : Nat) (u : Value) : (w.setCell ⟨Z, j, none⟩ u).ownsRow N e size v n xs := by
  refine h.kept (grown_set w Z j u) ?_
  cases hv : v.ownBlock with
  | none => exact .inl rfl
  | some g =>
    refine .inr fun he => ?_
    have := (h.lt g hv).1
    cases he
    omega

theorem set_here {ts : Array Value} {k : Nat} {u v : Value} (h : ts[k]? = some u) : (ts.setIfInBounds k v)[k]? = some v := by
  have hk : k < ts.size := (Array.getElem?_eq_some_iff.1 h).1
  simp [hk]
theorem set_there {ts : Array Value} {k i : Nat} {u v : Value} (h : ts[i]? = some u) (hi : i ≠ k) : (ts.setIfInBounds k v)[i]? = some u := by
  rw [Array.getElem?_setIfInBounds_ne (Ne.symm hi)]
  exact h

theorem sameTexts_at (l : List ByteArray) (a a' : Option Addr) (c n' c' N N' : Nat) (w : World) (h1 : RowAt w N a (stC l)) (h2 : RowAt w N' a' (stC l)) (hn : l.length ≤ 67108864) (he : n' = l.length) :
    Calls Tryd.prog 18 #[.slice a l.length c, .slice a' n' c'] w fun e w' => e = .returned (.bool true) ∧ ∃ n, w' = w.drewN n := by
  subst he
  exact sameTexts_true l a a' c c' N N' w h1 h2 hn

/-- What is behind the first texts of a list. -/
theorem row_tail {w : World} {N g c : Nat} {E L : List ByteArray} (h : w.ownsRow N 9 1 (.slice (some ⟨g, 0, none⟩) (E ++ L).length c) (E ++ L).length (stC (E ++ L))) : RowAt w w.heap.size (some ⟨g, E.length, none⟩) (stC L) := fun hne => by
  have hc : ∀ (j : Nat) (u : Value), (stC L)[j]? = some u → w.cell? ⟨g, E.length + j, none⟩ = some u := fun j u hu => by
    refine owns_cell h (E.length + j) u ?_
    rw [stC_append, List.getElem?_append_right (by rw [stC_len]; omega), stC_len, Nat.add_sub_cancel_left]
    exact hu
  refine ⟨g, E.length, rfl, ?_, fun j u hu => hc j u hu⟩
  cases hl : stC L with
  | nil => exact absurd hl hne
  | cons x t => exact cell_in2 (hc 0 x (by rw [hl]; rfl))

theorem cut_len (s : ByteArray) (k : Nat) : (cutP s k).1.length ≤ s.size - k := by
  by_cases h : k + 2 ≤ s.size ∧ k + 2 + num s k 2 ≤ s.size
  · rw [cut_yes h]
    have := cut_len s (k + 2 + num s k 2)
    simp only [List.length_cons]
    omega
  · rw [cut_no h]
    exact Nat.zero_le _
termination_by s.size - k

set_option maxRecDepth 100000 in
set_option maxHeartbeats 4000000 in
theorem pushed_any (M B n m : Nat) (f : Int) (s : ByteArray) (look : Bool) (w : World) (h : Ls w M B n m) (hf1 : -9223372036854775808 ≤ f) (hf2 : f < 9223372036854775808) (hz : m + s.size ≤ 67108864) (hn : n ≤ 67108864)
    (htab : Lib.TabBelow Tryd.prog M w "internal/strconv.uint64pow10" .u64 Lib.pow10Tab) :
    Calls Tryd.prog 6 #[.pointer (some ⟨B, 0, none⟩), .agg #[.int .i64 f, .string s, .bool look]] w fun r w' => r = .returned (.bool true) ∧ Below M w w' ∧ ∃ n', n' ≤ n + 1 ∧ Ls w' M B n' (m + s.size) := by
  have HLs := hide h
  obtain ⟨X, A, G, cx, ca, cg, xs, ts, gs, R, p, v1, o1, v2, o2, hl, hx, ha, hg, hR, hM, hp, hal⟩ := h
  have hMs : M ≤ w.heap.size := Nat.le_trans hM.1 (Nat.le_of_lt hl.bounds.b)
  obtain ⟨av1, cv1, hv1⟩ := owns_shape hl.h1
  obtain ⟨av2, cv2, hv2⟩ := owns_shape hl.h2
  have HV1 := hide hv1
  have HV2 := hide hv2
  clear hv1 hv2
  have hol1 : o1.length = n := by have := hl.h1.1; omega
  have hol2 : o2.length = n := by have := hl.h2.1; omega
  have HOL1 := hide hol1
  have HOL2 := hide hol2
  clear hol1 hol2
  -- the chunk's own block
  have hA0 := (Below.refl w.heap.size w).alloc (Nat.le_refl _) (.cells #[.int .i64 f, .string s, .bool look] 30)
  have hC := heap_alloc_new w (.cells #[.int .i64 f, .string s, .bool look] 30)
  have HLsA := hide ((unhide HLs).below hA0)
  have hlA := hl.below hA0
  have HBl := hide (hl.bounds.mono (show w.heap.size ≤ w.heap.size + 1 by omega))
  have HA0 := hide hA0
  have hsA : (w.alloc (.cells #[.int .i64 f, .string s, .bool look] 30)).heap.size = w.heap.size + 1 := by simp
  have hal2 := hide hal
  have HX := hide hx
  have HTs := hide ha
  have HGs := hide hg
  have HT := hide htab
  clear hal hl hx ha hg hA0 htab HLs
  go_enter Tryd.func6, Tryd.ntmps6
  go_upto_region 1 with fail
  obtain ⟨C, hCs⟩ : ∃ C, w.heap.size = C := ⟨_, rfl⟩
  rw [hCs] at hC hsA HBl HA0 hMs
  simp only [hCs]
  generalize w.alloc (.cells #[.int .i64 f, .string s, .bool look] 30) = w0 at *
  have d0 : w0.cell? ⟨C, 0, none⟩ = some (.int .i64 f) := cell_of_blk hC 0
  have d1 : w0.cell? ⟨C, 1, none⟩ = some (.string s) := cell_of_blk hC 1
  have d2 : w0.cell? ⟨C, 2, none⟩ = some (.bool look) := cell_of_blk hC 2
  have HC := hide hC
  have HLA := hide hlA
  have HCs := hide hCs
  have b0 : w0.cell? ⟨B, 0, none⟩ = some (.slice (some ⟨X, 0, none⟩) 2 cx) := cell_of_blk hlA.hB 0
  clear hC hlA hCs
  go_wp2_with fail
  refine (pick_l f _ hf1 hf2).mono ?_
  rintro r w1 ⟨⟨k, hk3, rfl⟩, rfl⟩
  by_cases hk : k < 2
  · have xk : w1.cell? ⟨X, k, none⟩ = some (.pointer (some ⟨R k, 0, none⟩)) := (cell_of_blk (unhide HLA).hX k).trans (unhide HX k hk)
    have hpk : (p k).size ≤ m := by
      have : k = 0 ∨ k = 1 := by omega
      rcases this with rfl | rfl <;> omega
    have KP : Hid (∀ W, FdAt W (R k) (p k) → Calls Tryd.prog 15 #[.pointer (some ⟨R k, 0, none⟩), .string s] W fun r w' => PushPost W (R k) (p k) s r w') := hide fun W q => push_z (R k) (p k) s W q (by omega)
    have HFd := hide ((unhide HLA).hF k hk)
    have hk1 : ¬ ((2 : Int) ≤ (k : Int)) := by omega
    have hk2 : (k : Int) < 2 := by omega
    have hk0 : (0 : Int) ≤ (k : Int) := by omega
    go_upto_region 4 with fail
    go_region_held3 (fun u => u.cell? ⟨B, 0, none⟩ = some (.slice (some ⟨X, 0, none⟩) 2 cx) ∧ u.cell? ⟨X, k, none⟩ = some (.pointer (some ⟨R k, 0, none⟩)) ∧ u.cell? ⟨C, 1, none⟩ = some (.string s)) (go_keep)
      (first
        | (go_at_call 15; refine (unhide KP _ (by exact unhide HFd)).mono ?_; rintro r w2 ⟨L, al, cl, q1, rfl, q2, q3, q4'⟩; have q4 : w1.grownBy w2 (some (R k)) := ⟨q4'.os, q4'.tape, q4'.output, q4'.size, q4'.block⟩; have HL2 := hide ((unhide HLA).push hk hR q3 q4); have y0 : w2.cell? ⟨B, 0, none⟩ = some (.slice (some ⟨X, 0, none⟩) 2 cx) := cell_of_blk (unhide HL2).hB 0; have y1 : w2.cell? ⟨X, k, none⟩ = some (.pointer (some ⟨R k, 0, none⟩)) := (cell_of_blk (unhide HL2).hX k).trans (unhide HX k hk); have HC2 : Hid (w2.heap[C]? = some (.cells #[.int .i64 f, .string s, .bool look] 30 (0, 0))) := hide (by obtain ⟨fe, fl, fz, _⟩ := unhide HFd; exact blk_turn (unhide HC) (show w1.heap[R k]? = some (.cells _ _ _) from fz) (by decide) q4); have y2 : w2.cell? ⟨C, 1, none⟩ = some (.string s) := cell_of_blk (unhide HC2) 1))
    -- what stands behind Push
    have hlen : (cutP (p k ++ s) 0) = ((cutP (p k) 0).1 ++ L, (cutP (p k ++ s) 0).2) := by rw [cut_chunk, q1]
    have HLen := hide hlen
    have HO2 : Hid (w2.ownsRow (C + 1) 9 1 (.slice al L.length cl) L.length (stC L)) := hide (by rw [← hsA]; exact q2)
    have HSF2 : Hid (SFr C A w w2) := hide (by
      obtain ⟨fe, fl, fz, _⟩ := unhide HFd
      exact (SFr.below (unhide HA0)).trans (SFr.turn (show w1.heap[R k]? = some (.cells _ _ _) from fz) (by decide) q4))
    have HB2 : Hid (Below M w w2) := hide (((unhide HA0).mono hMs).trans (below_turn q4 (hM.2.2.2 k hk) (by omega)))
    have hs2 : C + 1 ≤ w2.heap.size := by have := q4.size; omega
    have hqs : (p k ++ s).size = (p k).size + s.size := ByteArray.size_append
    have b1 : w2.cell? ⟨B, 1, none⟩ = some (.slice (some ⟨A, 0, none⟩) 2 ca) := cell_of_blk (unhide HL2).hB 1
    have ak : w2.cell? ⟨A, k, none⟩ = some (.string (p k)) := (cell_of_blk (unhide HL2).hA k).trans (unhide HTs k hk)
    have za := frozen_of_blk (unhide HL2).hA k
    have hAlt := blk_lt (unhide HL2).hA
    have hadd : ∀ W : World, (Op.stringOp .add (p k) s).run Tryd.prog W = .ok (.string (p k ++ s)) W := fun W => run_string_add_sum W (p k) s (by omega)
    clear q1 q2 q3 q4 q4' hlen d0 d1 d2 b0 xk y0 y1 KP HFd HLA HC HLsA
    go_upto_region 5 with fail
    refine wp_region_noPanic ?_
    refine wp_region_anyB (fun u => u.cell? ⟨B, 1, none⟩ = some (.slice (some ⟨A, 0, none⟩) 2 ca) ∧ u.cell? ⟨A, k, none⟩ = some (.string (p k)) ∧ u.cell? ⟨C, 1, none⟩ = some (.string s)) 16 (by kernel_rfl) ?_
    have hS1 : w2.drew.cell? ⟨B, 1, none⟩ = some (.slice (some ⟨A, 0, none⟩) 2 ca) ∧ w2.drew.cell? ⟨A, k, none⟩ = some (.string (p k)) ∧ w2.drew.cell? ⟨C, 1, none⟩ = some (.string s) := ⟨b1, ak, y2⟩
    refine anyB_take (i := 0) (v := ?_) rfl rfl (by kernel_rfl) (by kernel_rfl) (by kernel_rfl) (by kernel_rfl) (fun _ _ _ h => h) (Or.inl ⟨by rfl, ?_⟩) hS1 ?_
    rotate_left
    · intro u hu
      obtain ⟨u0, u1, u2⟩ := hu
      go_simp
      try with_reducible rfl
    try simp only [Act.put]
    refine anyB_take (i := 1) (v := ?_) rfl rfl (by kernel_rfl) (by kernel_rfl) (by kernel_rfl) (by kernel_rfl) (fun _ _ _ h => h) (Or.inl ⟨by rfl, ?_⟩) hS1 ?_
    rotate_left
    · intro u hu
      obtain ⟨u0, u1, u2⟩ := hu
      go_simp
      try with_reducible rfl
    try simp only [Act.put]
    refine anyB_take (i := 2) (v := ?_) rfl rfl (by kernel_rfl) (by kernel_rfl) (by kernel_rfl) (by kernel_rfl) (fun _ _ _ h => h) (Or.inl ⟨by rfl, ?_⟩) hS1 ?_
    rotate_left
    · intro u hu
      obtain ⟨u0, u1, u2⟩ := hu
      go_simp
      try with_reducible rfl
    try simp only [Act.put]
    refine anyB_take (i := 3) (v := ?_) rfl rfl (by kernel_rfl) (by kernel_rfl) (by kernel_rfl) (by kernel_rfl) (fun _ _ _ h => h) (Or.inl ⟨by rfl, ?_⟩) hS1 ?_
    rotate_left
    · intro u hu
      obtain ⟨u0, u1, u2⟩ := hu
      go_simp
      try with_reducible rfl
    try simp only [Act.put]
    refine anyB_take (i := 4) (v := ?_) rfl rfl (by kernel_rfl) (by kernel_rfl) (by kernel_rfl) (by kernel_rfl) (fun _ _ _ h => h) (Or.inl ⟨by rfl, ?_⟩) hS1 ?_
    rotate_left
    · intro u hu
      obtain ⟨u0, u1, u2⟩ := hu
      go_simp
      try with_reducible rfl
    try simp only [Act.put]
    refine anyB_take (i := 5) (v := ?_) rfl rfl (by kernel_rfl) (by kernel_rfl) (by kernel_rfl) (by kernel_rfl) (fun _ _ _ h => h) (Or.inl ⟨by rfl, ?_⟩) hS1 ?_
    rotate_left
    · intro u hu
      obtain ⟨u0, u1, u2⟩ := hu
      go_simp
      try with_reducible rfl
    try simp only [Act.put]
    refine anyB_take (i := 6) (v := ?_) rfl rfl (by kernel_rfl) (by kernel_rfl) (by kernel_rfl) (by kernel_rfl) (fun _ _ _ h => h) (Or.inl ⟨by rfl, ?_⟩) hS1 ?_
    rotate_left
    · intro u hu
      obtain ⟨u0, u1, u2⟩ := hu
      go_simp
      try with_reducible rfl
    try simp only [Act.put]
    refine anyB_take (i := 7) (v := ?_) rfl rfl (by kernel_rfl) (by kernel_rfl) (by kernel_rfl) (by kernel_rfl) (fun _ _ _ h => h) (Or.inl ⟨by rfl, ?_⟩) hS1 ?_
    rotate_left
    · intro u hu
      obtain ⟨u0, u1, u2⟩ := hu
      go_simp
      try with_reducible rfl
    try simp only [Act.put]
    refine anyB_take (i := 8) (v := ?_) rfl rfl (by kernel_rfl) (by kernel_rfl) (by kernel_rfl) (by kernel_rfl) (fun _ _ _ h => h) (Or.inl ⟨by rfl, ?_⟩) hS1 ?_
    rotate_left
    · intro u hu
      obtain ⟨u0, u1, u2⟩ := hu
      go_simp
      try with_reducible rfl
    try simp only [Act.put]
    refine anyB_take (i := 9) (v := ?_) rfl rfl (by kernel_rfl) (by kernel_rfl) (by kernel_rfl) (by kernel_rfl) (fun _ _ _ h => h) (Or.inl ⟨by rfl, ?_⟩) hS1 ?_
    rotate_left
    · intro u hu
      obtain ⟨u0, u1, u2⟩ := hu
      go_simp
      try with_reducible rfl
    try simp only [Act.put]
    refine anyB_take (i := 10) (v := ?_) rfl rfl (by kernel_rfl) (by kernel_rfl) (by kernel_rfl) (by kernel_rfl) (fun _ _ _ h => h) (Or.inl ⟨by rfl, ?_⟩) hS1 ?_
    rotate_left
    · intro u hu
      obtain ⟨u0, u1, u2⟩ := hu
      go_simp
      try with_reducible rfl
    try simp only [Act.put]
    refine anyB_take (i := 11) (v := ?_) rfl rfl (by kernel_rfl) (by kernel_rfl) (by kernel_rfl) (by kernel_rfl) (fun _ _ _ h => h) (Or.inl ⟨by rfl, ?_⟩) hS1 ?_
    rotate_left
    · intro u hu
      obtain ⟨u0, u1, u2⟩ := hu
      go_simp
      try with_reducible rfl
    try simp only [Act.put]
    refine anyB_take (i := 12) (v := ?_) rfl rfl (by kernel_rfl) (by kernel_rfl) (by kernel_rfl) (by kernel_rfl) (fun _ _ _ h => h) (Or.inl ⟨by rfl, ?_⟩) hS1 ?_
    rotate_left
    · intro u hu
      obtain ⟨u0, u1, u2⟩ := hu
      go_simp
      try with_reducible rfl
    try simp only [Act.put]
    refine anyB_take (i := 13) (v := ?_) rfl rfl (by kernel_rfl) (by kernel_rfl) (by kernel_rfl) (by kernel_rfl) (fun _ _ _ h => h) (Or.inl ⟨by rfl, ?_⟩) hS1 ?_
    rotate_left
    · intro u hu
      obtain ⟨u0, u1, u2⟩ := hu
      go_simp
      try with_reducible rfl
    try simp only [Act.put]
    refine anyB_take (i := 14) (v := ?_) rfl rfl (by kernel_rfl) (by kernel_rfl) (by kernel_rfl) (by kernel_rfl) (fun _ _ _ h => h) (Or.inl ⟨by rfl, ?_⟩) hS1 ?_
    rotate_left
    · intro u hu
      obtain ⟨u0, u1, u2⟩ := hu
      go_simp
      try with_reducible rfl
    try simp only [Act.put]
    refine anyB_one (i := 15) rfl (by kernel_rfl) (fun K hK => ?_)
    go_simp
    refine hK _ _ (fun _ => hS1) ?_
    clear hK K
    try simp only [Act.put]
    refine anyB_one (i := 16) rfl (by kernel_rfl) (fun K hK => ?_)
    go_simp
    refine hK _ _ (fun h => absurd rfl h) (anyB_done (by kernel_rfl) ?_ _)
    clear hK K
    refine NoPanic.normal ?_
    -- all[k] holds the chunk too
    have HL3 := hide (((unhide HL2).setA k (.string (p k ++ s))).below (below_drewB _ _))
    have HO3 := hide (owns_below (owns_low (unhide HO2) (Nat.lt_succ_of_le (show A ≤ C by have := (unhide HBl).a; omega)) k (.string (p k ++ s))) (below_drewB _ _))
    have HSF3 : Hid (SFr C A w (w2.setCell ⟨A, k, none⟩ (.string (p k ++ s))).drew) := hide (((unhide HSF2).trans (SFr.setA w2 k (.string (p k ++ s)))).trans (SFr.below (below_drewB _ _)))
    have HB3 : Hid (Below M w (w2.setCell ⟨A, k, none⟩ (.string (p k ++ s))).drew) := hide (((unhide HB2).setCell (p := ⟨A, k, none⟩) hM.2.1 _).trans (below_drewB _ _))
    have HC3 : Hid ((w2.setCell ⟨A, k, none⟩ (.string (p k ++ s))).drew.heap[C]? = some (.cells #[.int .i64 f, .string s, .bool look] 30 (0, 0))) := hide (show (w2.setCell ⟨A, k, none⟩ (.string (p k ++ s))).heap[C]? = _ from blk_turn (unhide HC2) (unhide HL2).hA (by decide) (grown_set w2 A k (.string (p k ++ s))))
    have hs3 : C + 1 ≤ (w2.setCell ⟨A, k, none⟩ (.string (p k ++ s))).drew.heap.size := by
      show C + 1 ≤ (w2.setCell ⟨A, k, none⟩ (.string (p k ++ s))).heap.size
      rw [size_set]
      exact hs2
    clear HL2 HO2 HSF2 HB2 HC2 hs2 hS1 b1 ak za hAlt hadd y2
    generalize (w2.setCell ⟨A, k, none⟩ (.string (p k ++ s))).drew = w3 at *
    have b1 : w3.cell? ⟨B, 1, none⟩ = some (.slice (some ⟨A, 0, none⟩) 2 ca) := cell_of_blk (unhide HL3).hB 1
    have ak : w3.cell? ⟨A, k, none⟩ = some (.string (p k ++ s)) := (cell_of_blk (unhide HL3).hA k).trans (set_here (unhide HTs k hk))
    have HFq : Hid (∀ W, Lw W M B X A G cx ca cg xs (ts.setIfInBounds k (.string (p k ++ s))) gs R (fun i => if i = k then p k ++ s else p i) v1 n o1 v2 n o2 → FdAt W (R k) (p k ++ s)) := hide fun W q => by
      have := q.hF k hk
      simp only [if_pos] at this
      exact this
    have hqm : (p k ++ s).size ≤ 67108864 := by omega
    have hpq : (p k ++ s).size + (p (1 - k)).size ≤ m + s.size := by
      have : k = 0 ∨ k = 1 := by omega
      rcases this with rfl | rfl
      · show _ + (p 1).size ≤ _; omega
      · show _ + (p 0).size ≤ _; omega
    have HPQ := hide hpq
    generalize hq : p k ++ s = q at *
    have KC := hide (refCut_any q w3 hqm)
    generalize hD : (cutP q 0).1 = D at *
    generalize hlf : (cutP q 0).2 = lf at *
    have hDL : D = (cutP (p k) 0).1 ++ L := by rw [← hD, unhide HLen]
    have hDn : D.length ≤ 67108864 := by have := cut_len q 0; rw [hD] at this; omega
    have hlf2 : lf ≤ 67108864 := by have := cut_le q 0; omega
    have HDL := hide hDL
    have HD := hide hD
    have Hlf := hide hlf
    clear hD hlf hDL HLen hq
    go_wp2_with fail
    refine (unhide KC).mono ?_
    rintro r w4 ⟨am, cm, rfl, c1, c2⟩
    have HL4 := hide ((unhide HL3).below c2)
    have HO4 := hide (owns_below (unhide HO3) c2)
    have HM4 := hide c1
    have HSF4 := hide ((unhide HSF3).trans (SFr.below (N := C) (A := A) (c2.mono (by omega))))
    have HB4 := hide ((unhide HB3).trans (c2.mono (by omega)))
    have HC4 := hide ((c2.block C (blk_lt (unhide HC3))).trans (unhide HC3))
    have hs4 : C + 1 ≤ w4.heap.size := Nat.le_trans hs3 c2.size
    clear c1 c2 HL3 HO3 HSF3 HB3 HC3 b1 ak KC
    have d2 : w4.cell? ⟨C, 2, none⟩ = some (.bool look) := cell_of_blk (unhide HC4) 2
    go_upto_if 67 with fail
    go_cut [1, 67] (fun _ _ w' => ∃ t, Hid (w' = w4.drewN t))
    case first =>
      have KL := hide (left_z (R k) q w4 (unhide HFq _ (unhide HL4)) hqm)
      rw [unhide Hlf] at KL
      have b0 : w4.cell? ⟨B, 0, none⟩ = some (.slice (some ⟨X, 0, none⟩) 2 cx) := cell_of_blk (unhide HL4).hB 0
      have xk : w4.cell? ⟨X, k, none⟩ = some (.pointer (some ⟨R k, 0, none⟩)) := (cell_of_blk (unhide HL4).hX k).trans (unhide HX k hk)
      have hne : ((lf : Int) != (lf : Int)) = false := by simp
      clear d2 HC4
      cases look with
      | true =>
        go_wp2_with fail
        refine (unhide KL).mono ?_
        rintro r w5 ⟨rfl, t, rfl⟩
        go_wp2_with fail
        go_meet
        exact ⟨t, hide rfl⟩
      | false =>
        go_wp2_with fail
        go_meet
        exact ⟨0, hide rfl⟩
    case rest =>
      obtain ⟨t, HW⟩ := hcut
      generalize wc = w6 at *
      have HL5 : Hid (Lw w6 M B X A G cx ca cg xs (ts.setIfInBounds k (.string q)) gs R (fun i => if i = k then q else p i) v1 n o1 v2 n o2) := hide (by rw [unhide HW]; exact (unhide HL4).below (below_drewNB _ _ _))
      have HO5 : Hid (w6.ownsRow (C + 1) 9 1 (.slice al L.length cl) L.length (stC L)) := hide (by rw [unhide HW]; exact owns_below (unhide HO4) (below_drewNB _ _ _))
      have HM5 : Hid (w6.ownsRow w3.heap.size 9 1 (.slice am D.length cm) D.length (stC D)) := hide (by rw [unhide HW]; exact owns_below (unhide HM4) (below_drewNB _ _ _))
      have HSF5 : Hid (SFr C A w w6) := hide (by rw [unhide HW]; exact (unhide HSF4).trans (SFr.below (below_drewNB _ _ _)))
      have HB5 : Hid (Below M w w6) := hide (by rw [unhide HW]; exact (unhide HB4).trans (below_drewNB _ _ _))
      have hs5 : C + 1 ≤ w6.heap.size := by rw [unhide HW]; exact hs4
      clear HL4 HO4 HM4 HSF4 HB4 HC4 HW d2 hs4 Hlf HFq
      generalize hne : (cutP (p k) 0).1.length = ne at *
      have hDl : D.length = ne + L.length := by rw [unhide HDL, List.length_append, hne]
      have gk : w6.cell? ⟨G, k, none⟩ = some (.int .i64 (ne : Nat)) := by rw [← hne]; exact (cell_of_blk (unhide HL5).hG k).trans (unhide HGs k hk)
      have HDL2 : Hid (∃ E : List ByteArray, E.length = ne ∧ D = E ++ L) := hide ⟨_, hne, unhide HDL⟩
      have b2 : w6.cell? ⟨B, 2, none⟩ = some (.slice (some ⟨G, 0, none⟩) 2 cg) := cell_of_blk (unhide HL5).hB 2
      have hgt : ¬ ((D.length : Int) < (ne : Int)) := by omega
      clear hne HDL
      have HDl := hide hDl
      clear hDl
      generalize hdl : D.length = dl at *
      go_upto_region 13 with fail
      go_cut [7, 10, 55, 63, 64, 86, 87, 88, 90] (fun v7 v10 _ _ _ _ _ _ _ w' => v7 = .slice am dl cm ∧ v10 = .bool true ∧ ∃ t, Hid (w' = w6.drewN t))
      case first =>
        have hLn : L.length ≤ 67108864 := by have := unhide HDl; omega
        rcases (unhide HM5).2 with ⟨h1, h2⟩ | ⟨gm, cap, cur, h1, h2, h3, h4, h5, h6, h7⟩
        · injection h1 with i1 i2 i3
          subst i1
          subst i3
          have hL0 : 0 = L.length := by have := unhide HDl; omega
          have KS := hide (sameTexts_at L al none cl 0 0 w6.heap.size w6.heap.size w6 (owns_rowAt (unhide HO5)) (fun hx => absurd (List.eq_nil_of_length_eq_zero (by rw [stC_len]; exact hL0.symm)) hx) hLn hL0)
          have hle : (ne : Int) ≤ (dl : Int) := by omega
          have HI2 := hide i2
          clear hL0 h2
          go_wp2_with fail
          refine (unhide KS).mono ?_
          rintro r w5 ⟨rfl, t, rfl⟩
          go_wp2_with fail
          go_meet
          exact ⟨by rw [unhide HI2], rfl, t, hide rfl⟩
        · injection h1 with i1 i2 i3
          subst i1
          subst i3
          have hdl2 : dl - ne = L.length := by have := unhide HDl; omega
          have HR : Hid (RowAt w6 w6.heap.size (some ⟨gm, ne, none⟩) (stC L)) := hide (by
            obtain ⟨E, e1, e2⟩ := unhide HDL2
            have := unhide HM5
            rw [e2] at this hdl
            rw [← hdl, ← e1] at *
            exact row_tail this)
          have KS := hide (sameTexts_at L al (some ⟨gm, ne, none⟩) cl (dl - ne) (cm - ne) w6.heap.size w6.heap.size w6 (owns_rowAt (unhide HO5)) (unhide HR) hLn hdl2)
          have KT : Hid (cm = ne → Calls Tryd.prog 18 #[.slice al L.length cl, .slice (some ⟨gm, 0, none⟩) (dl - ne) 0] w6 fun e w' => e = .returned (.bool true) ∧ ∃ n, w' = w6.drewN n) := hide fun hc =>
            sameTexts_at L al (some ⟨gm, 0, none⟩) cl (dl - ne) 0 w6.heap.size w6.heap.size w6 (owns_rowAt (unhide HO5)) (fun hx => absurd (List.eq_nil_of_length_eq_zero (by rw [stC_len]; have := unhide HDl; omega)) hx) hLn hdl2
          have hle : (ne : Int) ≤ (dl : Int) := by omega
          clear hdl2 h2 h3 h4 h5 h6 h7
          go_wp2_with fail
          case inl =>
            have hcm : cm = ne := by assumption
            have HCM := hide hcm
            clear hcm
            refine (unhide KT (unhide HCM)).mono ?_
            rintro r w5 ⟨rfl, t, rfl⟩
            go_wp2_with fail
            go_meet
            exact ⟨by rw [unhide HCM], rfl, t, hide rfl⟩
          case inr =>
            refine (unhide KS).mono ?_
            rintro r w5 ⟨rfl, t, rfl⟩
            go_wp2_with fail
            go_meet
            exact ⟨rfl, rfl, t, hide rfl⟩
      case rest =>
        obtain ⟨rfl, rfl, t2, HW2⟩ := hcut
        have HL6 : Hid (Lw wc M B X A G cx ca cg xs (ts.setIfInBounds k (.string q)) gs R (fun i => if i = k then q else p i) v1 n o1 v2 n o2) := hide (by rw [unhide HW2]; exact (unhide HL5).below (below_drewNB _ _ _))
        have HO6 : Hid (wc.ownsRow (C + 1) 9 1 (.slice al L.length cl) L.length (stC L)) := hide (by rw [unhide HW2]; exact owns_below (unhide HO5) (below_drewNB _ _ _))
        have HSF6 : Hid (SFr C A w wc) := hide (by rw [unhide HW2]; exact (unhide HSF5).trans (SFr.below (below_drewNB _ _ _)))
        have HB6 : Hid (Below M w wc) := hide (by rw [unhide HW2]; exact (unhide HB5).trans (below_drewNB _ _ _))
        have hs6 : C + 1 ≤ wc.heap.size := by rw [unhide HW2]; exact hs5
        clear HL5 HO5 HM5 HSF5 HB5 HW2 hs5 gk b2 HDL2
        generalize wc = w7 at *
        -- given[k] is how many came out
        have HL7 := hide ((unhide HL6).setG k (.int .i64 (dl : Nat)))
        have HO7 := hide (owns_low (unhide HO6) (Nat.lt_succ_of_le (show G ≤ C by have := (unhide HBl).g; omega)) k (.int .i64 (dl : Nat)))
        have HSF7 : Hid (SFr C A w (w7.setCell ⟨G, k, none⟩ (.int .i64 (dl : Nat)))) := hide ((unhide HSF6).trans (SFr.turn (unhide HL6).hG (by decide) (grown_set w7 G k _)))
        have HB7 : Hid (Below M w (w7.setCell ⟨G, k, none⟩ (.int .i64 (dl : Nat)))) := hide ((unhide HB6).setCell (p := ⟨G, k, none⟩) hM.2.2.1 _)
        have hs7 : C + 1 ≤ (w7.setCell ⟨G, k, none⟩ (.int .i64 (dl : Nat))).heap.size := by rw [size_set]; exact hs6
        have b2 : w7.cell? ⟨B, 2, none⟩ = some (.slice (some ⟨G, 0, none⟩) 2 cg) := cell_of_blk (unhide HL6).hB 2
        have gk := (cell_of_blk (unhide HL6).hG k).trans (unhide HGs k hk)
        have zg := frozen_of_blk (unhide HL6).hG k
        go_upto_region 15 with fail
        clear b2 gk zg HL6 HO6 HSF6 HB6 hs6
        generalize w7.setCell ⟨G, k, none⟩ (.int .i64 (dl : Nat)) = w8 at *
        -- the mark
        have b3 : w8.cell? ⟨B, 3, none⟩ = some (.slice av1 n cv1) := by rw [← unhide HV1]; exact cell_of_blk (unhide HL7).hB 3
        have KI := hide (itoa_any n w8 (by omega) (unhide HT w8 (unhide HB7)))
        go_upto_region 16 with (go_at_call 19; refine (unhide KI).mono ?_; rintro r w9 ⟨⟨mk, hmk, rfl⟩, i9⟩)
        have HL9 := hide ((unhide HL7).below i9)
        have HO9 := hide (owns_below (unhide HO7) i9)
        have HSF9 := hide ((unhide HSF7).trans (SFr.below (N := C) (A := A) (i9.mono (by omega))))
        have HB9 := hide ((unhide HB7).trans (i9.mono (by omega)))
        have hs9 : C + 1 ≤ w9.heap.size := Nat.le_trans hs7 i9.size
        clear i9 KI HL7 HO7 HSF7 HB7 hs7 b3
        have hLn : L.length ≤ 67108864 := by have := unhide HDl; omega
        have hAC : A < C + 1 := (unhide HBl).a
        obtain ⟨i0, hi, hz0, hz1, hz2⟩ := info_parts Tryd.info9
        have Hi := hide hi
        have Hz0 := hide hz0
        have Hz1 := hide hz1
        have Hz2 := hide hz2
        obtain ⟨i5, hi, hz0, hz1, hz2⟩ := info_parts Tryd.infoL
        have Hj := hide hi
        have Hy0 := hide hz0
        have Hy1 := hide hz1
        have Hy2 := hide hz2
        clear hi hz0 hz1 hz2
        go_wp2_with fail
        go_loopg [12] (L.length + 1) (fun g vi w' => ∃ j : Nat, vi = .int .i64 j ∧ j ≤ L.length ∧ g = L.length + 1 - j ∧ Hid (w'.ownsRow (C + 1) 9 1 (.slice al L.length cl) L.length (stC (List.replicate j mk ++ L.drop j))) ∧ Hid (Below (C + 1) w9 w') ∧ C + 1 ≤ w'.heap.size)
        case atStart => exact ⟨0, rfl, Nat.zero_le _, rfl, HO9, hide (Below.refl _ _), hs9⟩
        case round =>
          obtain ⟨j, rfl, hj, rfl, HOj, HBj, hsj⟩ := hrel
          by_cases cj : j < L.length
          · obtain ⟨g, rfl, x0⟩ := owns_in (unhide HOj) j (.string L[j]) (by
              unfold stC
              rw [List.map_append, List.getElem?_append_right (by simp)]
              simp [cj])
            have z0 := owns_frozen (unhide HOj) j
            have hgC : C + 1 ≤ g := ((unhide HOj).lt g rfl).1
            have HOn := hide (owns_set (unhide HOj) j (.string mk))
            rw [set_drop mk L j cj] at HOn
            generalize L[j] = y at *
            go_wp2_with fail
            go_roundg (L.length + 1 - (j + 1))
            case measure => omega
            case rel => exact ⟨j + 1, by go_num, by omega, rfl, HOn, hide ((unhide HBj).setCell (p := ⟨g, j, none⟩) hgC _), by rw [size_set]; exact hsj⟩
          · have ej : j = L.length := by omega
            subst ej
            have hT : List.replicate L.length mk ++ L.drop L.length = List.replicate L.length mk := by rw [List.drop_length, List.append_nil]
            have HOT := HOj
            rw [hT] at HOT
            have hTl : (List.replicate L.length mk).length = L.length := List.length_replicate
            have HL10 := hide ((unhide HL9).belowN (unhide HBl) (unhide HBj))
            have HSF10 := hide ((unhide HSF9).trans (SFr.below (N := C) (A := A) ((unhide HBj).mono (by omega))))
            have HB10 := hide ((unhide HB9).trans ((unhide HBj).mono (by omega)))
            have HRS10 := hide (owns_rowS (unhide HOT) hAC)
            clear HOj hT HL9 HSF9 HB9 HBj HO9
            generalize hTT : List.replicate L.length mk = T at *
            clear hTT
            generalize L.length = ln at *
            generalize wr = w10 at *
            have hmb : (mk ++ ⟨#[32, 98, 101, 121, 111, 110, 100]⟩).size ≤ 80 := by
              rw [ByteArray.size_append]
              have : (⟨#[32, 98, 101, 121, 111, 110, 100]⟩ : ByteArray).size = 7 := rfl
              omega
            have hadd : ∀ W : World, (Op.stringOp .add mk ⟨#[32, 98, 101, 121, 111, 110, 100]⟩).run Tryd.prog W = .ok (.string (mk ++ ⟨#[32, 98, 101, 121, 111, 110, 100]⟩)) W := fun W => run_string_add_sum W mk _ (by have : (⟨#[32, 98, 101, 121, 111, 110, 100]⟩ : ByteArray).size = 7 := rfl; omega)
            go_wp2_with fail
            go_loopg [13, 14] 10 (fun g vx vi w' => ∃ (j : Nat) (ax : Option Addr) (cx' : Nat) (ks : List Value), vi = .int .i64 j ∧ vx = .slice ax (ln + j) cx' ∧ j ≤ 9 ∧ g = 10 - j ∧ Hid (w'.ownsRow (C + 1) 9 1 (.slice ax (ln + j) cx') (ln + j) (stC T ++ ks)) ∧ Hid (RowS w' A al T) ∧ Hid (Below (C + 1) w10 w') ∧ C + 1 ≤ w'.heap.size)
            case atStart => exact ⟨0, al, cl, [], rfl, rfl, by omega, rfl, by rw [List.append_nil]; exact HOT, HRS10, hide (Below.refl _ _), hsj⟩
            case round =>
              obtain ⟨j, ax, cx', ks, rfl, rfl, hj9, rfl, HOx, HRS, HBx, hsx⟩ := hrel
              by_cases cj9 : j < 9
              · have hA9 := (Below.refl wr.heap.size wr).alloc (Nat.le_refl _) (.cells #[.string (mk ++ ⟨#[32, 98, 101, 121, 111, 110, 100]⟩)] 9)
                have HOa := hide ((unhide HOx).alloc (.cells #[.string (mk ++ ⟨#[32, 98, 101, 121, 111, 110, 100]⟩)] 9))
                have HRa := hide ((unhide HRS).fr (SFr.below hA9))
                have HA9 := hide hA9
                clear hA9
                go_wp2_with (at_builtin; refine wpList_append_keep _ rfl _ _ 22 22 rfl (C + 1) 9 i0 (.string ⟨#[]⟩) 1 16 Tryd.underlying22 (unhide Hi) (unhide Hz0) (unhide Hz1) (unhide Hz2) rfl (.slice ax (ln + j) cx') (ln + j) (stC T ++ ks) (by rfl) (unhide HOa) (.slice (some ⟨wr.heap.size, 0, none⟩) 1 1) 1 [.string (mk ++ ⟨#[32, 98, 101, 121, 111, 110, 100]⟩)] (by rfl) (Src.ofSlice _ Tryd.underlying22 ⟨wr.heap.size, 0, none⟩ 1 1 _ rfl (cell_one_st _ _ _ _ rfl) (fun x hx => by simp at hx; subst hx; rfl)) (by unfold maxLen; omega) (by omega) (by simp; omega) ?_; intro a4 e4 w4' hown4 hgrow4 hat4 hkeep4)
                go_roundg (10 - (j + 1))
                case measure => omega
                case rel =>
                  have hB4 := ((unhide HA9).mono hsx).trans (below_append (unhide HOa) hgrow4 (Nat.le_trans hsx (unhide HA9).size))
                  exact ⟨j + 1, a4, e4, ks ++ [.string (mk ++ ⟨#[32, 98, 101, 121, 111, 110, 100]⟩)], by go_num, rfl, by omega, rfl, hide (by rw [← List.append_assoc]; exact hown4), hide ((unhide HRa).app (unhide HOa) hgrow4 hkeep4), hide ((unhide HBx).trans hB4), Nat.le_trans hsx hB4.size⟩
              · have HL11 := hide ((unhide HL10).belowN (unhide HBl) (unhide HBx))
                have HSF11 := hide ((unhide HSF10).trans (SFr.below (N := C) (A := A) ((unhide HBx).mono (by omega))))
                have HB11 := hide ((unhide HB10).trans ((unhide HBx).mono (by omega)))
                clear HL10 HSF10 HB10 HBx HOx HOT HRS10 hadd hmb
                generalize wr = w11 at *
                go_upto_region 25 with fail
                -- outs
                have hA11 := (Below.refl w11.heap.size w11).alloc (Nat.le_refl _) (.cells #[.slice al ln cl] 22)
                have HLa := hide ((unhide HL11).below hA11)
                have HRa := hide ((unhide HRS).fr (SFr.below hA11))
                have HA11 := hide hA11
                have b3 : w11.cell? ⟨B, 3, none⟩ = some v1 := cell_of_blk (unhide HL11).hB 3
                have e3 : (w11.alloc (.cells #[.slice al ln cl] 22)).cell? ⟨B, 3, none⟩ = some v1 := cell_of_blk (unhide HLa).hB 3
                have hMx : M ≤ w11.heap.size := by omega
                clear hA11
                go_upto_region 26 with (at_builtin; refine wpList_append_row _ rfl _ _ 40 40 rfl M 22 i5 (.slice none 0 0) 1 24 Tryd.underlying40 (unhide Hj) (unhide Hy0) (unhide Hy1) (unhide Hy2) rfl v1 n o1 (by rfl) (unhide HLa).h1 (.slice (some ⟨w11.heap.size, 0, none⟩) 1 1) 1 [.slice al ln cl] (by rfl) (Src.ofSlice _ Tryd.underlying40 ⟨w11.heap.size, 0, none⟩ 1 1 _ rfl (cell_one_st _ _ _ _ rfl) (fun x hx => by simp at hx; subst hx; rfl)) (by unfold maxLen; omega) (by omega) (by simp; omega) ?_; intro a12 e12 w12 hown12 hgrow12 hat12; have hB12 := blk_kind (unhide HLa).h1 hgrow12 (unhide HLa).hB (by decide); have b0 : w12.cell? ⟨B, 3, none⟩ = some v1 := cell_of_blk hB12 3; have z0 := frozen_of_blk hB12 3; have HOwn12 := hide hown12; have HGrow12 := hide hgrow12; have HAt12 := hide hat12; have HB12 := hide hB12; clear hown12 hgrow12 hat12 hB12)
                have HL13 := hide ((unhide HLa).out1 (unhide HOwn12) (unhide HGrow12) (unhide HAt12))
                have HS12 : Hid (∀ N, SFr N A w11 (w12.setCell ⟨B, 3, none⟩ (.slice a12 (n + 1) e12))) := hide fun N => by
                  have q1 : SFr N A (w11.alloc (.cells #[.slice al ln cl] 22)) w12 := SFr.app (unhide HLa).h1 (by decide) (unhide HGrow12)
                  have q2 : SFr N A w12 (w12.setCell ⟨B, 3, none⟩ (.slice a12 (n + 1) e12)) := SFr.turn (unhide HB12) (by decide) (grown_set w12 B 3 _)
                  have q0 : SFr N A w11 (w11.alloc (.cells #[.slice al ln cl] 22)) := fun b cs z hb hA hq => ((unhide HA11).block b (blk_lt hq)).trans hq
                  exact (q0.trans q1).trans q2
                have HSF13 := hide ((unhide HSF11).trans (unhide HS12 C))
                have HRS13 := hide ((unhide HRS).fr (unhide HS12 _))
                have HB13 := hide ((unhide HB11).trans ((((unhide HA11).mono hMx).trans (below_append (unhide HLa).h1 (unhide HGrow12) (Nat.le_trans hMx (unhide HA11).size))).setCell (p := ⟨B, 3, none⟩) hM.1 (.slice a12 (n + 1) e12)))
                have hs13 : C + 1 ≤ (w12.setCell ⟨B, 3, none⟩ (.slice a12 (n + 1) e12)).heap.size := by have := (unhide HGrow12).size; have := (unhide HA11).size; rw [size_set]; omega
                clear HLa HRa HA11 HL11 HSF11 HB11 HRS HOwn12 HGrow12 HAt12 HB12 HS12 b3 e3 b0 z0 hMx hsx hsj
                generalize w12.setCell ⟨B, 3, none⟩ (.slice a12 (n + 1) e12) = w13 at *
                -- the copy
                have hms : (madeCells #[.string ⟨#[]⟩] (ln * 1)).size = ln * 1 := size_madeCells _ _
                have HMs := hide hms
                have HOne := hide (stC_one T)
                have hcl : (stC T).length = ln := by rw [stC_len]; exact hTl
                have HCl := hide hcl
                obtain ⟨g, hg⟩ : ∃ g, w13.heap.size = g := ⟨_, rfl⟩
                have hAg : g ≠ A := by omega
                have hCg : C + 1 ≤ g := by omega
                clear hms hcl
                go_upto_region 28 with (first | (at_make; refine wpList_make_full _ rfl _ _ 22 rfl w13.heap.size 9 i0 (.string ⟨#[]⟩) 1 Tryd.underlying22 (unhide Hi) (unhide Hz0) (unhide Hz1) .i64 .i64 (ln : Int) (ln : Int) ln (by rfl) (by rfl) (by omega) (by omega) (by rw [unhide Hz2]; omega) (by unfold maxLen; omega) (Nat.le_refl _) ?_; intro w14 hown14 hgrow14; have hg14 := owns_full hown14; rw [hg, Array.toArray_toList] at hg14; have HG14 : Hid (w14.heap[g]? = some (.cells (madeCells #[.string ⟨#[]⟩] (ln * 1)) 9 (0, 0))) := hg14; have HB14 : Hid (Below g w13 w14) := hide ⟨hgrow14.os, hgrow14.tape, hgrow14.output, hgrow14.size, fun k hk => hgrow14.block k (by omega) (by simp)⟩; clear hown14 hgrow14 hg14; rw [hg]))
                have hRow14 := ((unhide HRS13).fr (SFr.below (by rw [hg]; exact unhide HB14))).row
                have hfit : (stC T).length ≤ (madeCells #[.string ⟨#[]⟩] (ln * 1)).size := by rw [unhide HCl, unhide HMs]; omega
                have hlen5 : (stC T).length = ln * i0.size := by rw [unhide Hz1, Nat.mul_one]; exact unhide HCl
                obtain ⟨w15, hw15⟩ : ∃ w15, w14.setRow g (stC T ++ (madeCells #[.string ⟨#[]⟩] (ln * 1)).toList.drop (stC T).length).toArray = w15 := ⟨_, rfl⟩
                have hg15 := setRow_heap w14 g _ (stC T ++ (madeCells #[.string ⟨#[]⟩] (ln * 1)).toList.drop (stC T).length).toArray 9 _ (unhide HG14)
                have hB15 := below_setRow (unhide HB14) (Nat.le_refl g) (stC T ++ (madeCells #[.string ⟨#[]⟩] (ln * 1)).toList.drop (stC T).length).toArray
                rw [hw15] at hg15 hB15
                rw [run_copy_wide w14 22 22 3 9 i0 g ln ln al ln cl _ 9 (stC T) Tryd.underlying22 (unhide Hi) (unhide HG14) hlen5 (by omega) hRow14.addr hfit (unhide HOne), hw15]
                have HRo : Hid (RowS w15 A (some ⟨g, 0, none⟩) T) := hide fun _ => ⟨g, _, _, rfl, hAg, hg15, fun j u hu => by
                  rw [List.getElem?_toArray, List.getElem?_append_left (List.getElem?_eq_some_iff.1 hu).1]
                  exact hu⟩
                have HL15 := hide ((unhide HL13).below (by rw [hg]; exact hB15))
                have HRS15 := hide ((unhide HRS13).fr (SFr.below (by rw [hg]; exact hB15)))
                have HSF15 := hide ((unhide HSF13).trans (SFr.below (N := C) (A := A) (hB15.mono (by omega))))
                have HB15 := hide ((unhide HB13).trans (hB15.mono (by omega)))
                have hs15 : C + 1 ≤ w15.heap.size := Nat.le_trans hs13 hB15.size
                clear hRow14 hfit hlen5 hw15 hg15 hB15 HB14 HG14 HL13 HRS13 HSF13 HB13 hs13 hg HMs HOne
                -- outs2
                have hA15 := (Below.refl w15.heap.size w15).alloc (Nat.le_refl _) (.cells #[.slice (some ⟨g, 0, none⟩) ln ln] 22)
                have HLb := hide ((unhide HL15).below hA15)
                have HA15 := hide hA15
                have b4 : w15.cell? ⟨B, 4, none⟩ = some v2 := cell_of_blk (unhide HL15).hB 4
                have e4 : (w15.alloc (.cells #[.slice (some ⟨g, 0, none⟩) ln ln] 22)).cell? ⟨B, 4, none⟩ = some v2 := cell_of_blk (unhide HLb).hB 4
                have hMx : M ≤ w15.heap.size := by omega
                clear hA15
                go_upto_region 29 with (at_builtin; refine wpList_append_row _ rfl _ _ 40 40 rfl M 22 i5 (.slice none 0 0) 1 24 Tryd.underlying40 (unhide Hj) (unhide Hy0) (unhide Hy1) (unhide Hy2) rfl v2 n o2 (by rfl) (unhide HLb).h2 (.slice (some ⟨w15.heap.size, 0, none⟩) 1 1) 1 [.slice (some ⟨g, 0, none⟩) ln ln] (by rfl) (Src.ofSlice _ Tryd.underlying40 ⟨w15.heap.size, 0, none⟩ 1 1 _ rfl (cell_one_st _ _ _ _ rfl) (fun x hx => by simp at hx; subst hx; rfl)) (by unfold maxLen; omega) (by omega) (by simp; omega) ?_; intro a16 e16 w16 hown16 hgrow16 hat16; have hB16 := blk_kind (unhide HLb).h2 hgrow16 (unhide HLb).hB (by decide); have b0 : w16.cell? ⟨B, 4, none⟩ = some v2 := cell_of_blk hB16 4; have z0 := frozen_of_blk hB16 4; have HOwn16 := hide hown16; have HGrow16 := hide hgrow16; have HAt16 := hide hat16; have HB16 := hide hB16; clear hown16 hgrow16 hat16 hB16)
                have HL17 := hide ((unhide HLb).out2 (unhide HOwn16) (unhide HGrow16) (unhide HAt16))
                have HS16 : Hid (∀ N, SFr N A w15 (w16.setCell ⟨B, 4, none⟩ (.slice a16 (n + 1) e16))) := hide fun N => by
                  have q1 : SFr N A (w15.alloc (.cells #[.slice (some ⟨g, 0, none⟩) ln ln] 22)) w16 := SFr.app (unhide HLb).h2 (by decide) (unhide HGrow16)
                  have q2 : SFr N A w16 (w16.setCell ⟨B, 4, none⟩ (.slice a16 (n + 1) e16)) := SFr.turn (unhide HB16) (by decide) (grown_set w16 B 4 _)
                  have q0 : SFr N A w15 (w15.alloc (.cells #[.slice (some ⟨g, 0, none⟩) ln ln] 22)) := fun b cs z hb hA hq => ((unhide HA15).block b (blk_lt hq)).trans hq
                  exact (q0.trans q1).trans q2
                have HSF17 := hide ((unhide HSF15).trans (unhide HS16 C))
                have HRS17 := hide ((unhide HRS15).fr (unhide HS16 _))
                have HRo17 := hide ((unhide HRo).fr (unhide HS16 _))
                have HB17 := hide ((unhide HB15).trans ((((unhide HA15).mono hMx).trans (below_append (unhide HLb).h2 (unhide HGrow16) (Nat.le_trans hMx (unhide HA15).size))).setCell (p := ⟨B, 4, none⟩) hM.1 (.slice a16 (n + 1) e16)))
                clear HLb HA15 HL15 HSF15 HB15 HRS15 HRo HOwn16 HGrow16 HAt16 HB16 HS16 b4 e4 b0 z0 hMx
                generalize w16.setCell ⟨B, 4, none⟩ (.slice a16 (n + 1) e16) = w17 at *
                go_wp2_with fail
                go_ret
                refine ⟨rfl, unhide HB17, n + 1, Nat.le_refl _, X, A, G, cx, ca, cg, xs, _, _, R, _, _, _, _, _, unhide HL17, unhide HX, ?_, ?_, hR, hM, ?_, ?_⟩
                · intro i hi
                  by_cases ei : i = k
                  · subst ei
                    simp only [if_pos]
                    exact set_here (unhide HTs i hi)
                  · simp only [if_neg ei]
                    exact set_there (unhide HTs i hi) ei
                · intro i hi
                  by_cases ei : i = k
                  · subst ei
                    simp only [if_pos]
                    rw [unhide HD, hdl]
                    exact set_here (unhide HGs i hi)
                  · simp only [if_neg ei]
                    exact set_there (unhide HGs i hi) ei
                · have hh := unhide HPQ
                  have : k = 0 ∨ k = 1 := by omega
                  rcases this with rfl | rfl
                  · simp only [if_pos, if_neg (show ¬ ((1 : Nat) = 0) by omega)]
                    exact hh
                  · simp only [if_pos, if_neg (show ¬ ((0 : Nat) = 1) by omega)]
                    rw [Nat.add_comm]
                    exact hh
                · intro i hi
                  by_cases ei : i < n
                  · obtain ⟨a, c, a2, c2, U, q1, q2, q3, q4, q5⟩ := unhide hal2 i ei
                    have hfr : SFr w.heap.size A w w17 := by rw [unhide HCs]; exact unhide HSF17
                    exact ⟨a, c, a2, c2, U, by rw [List.getElem?_append_left (by rw [unhide HOL1]; exact ei)]; exact q1, by rw [List.getElem?_append_left (by rw [unhide HOL2]; exact ei)]; exact q2, q3, q4.fr hfr, q5.fr hfr⟩
                  · have ein : i = n := by omega
                    subst ein
                    refine ⟨al, cl, some ⟨g, 0, none⟩, ln, T, ?_, ?_, by omega, unhide HRS17, unhide HRo17⟩
                    · rw [hTl, List.getElem?_append_right (by rw [unhide HOL1]; exact Nat.le_refl _), unhide HOL1, Nat.sub_self]
                      rfl
                    · rw [hTl, List.getElem?_append_right (by rw [unhide HOL2]; exact Nat.le_refl _), unhide HOL2, Nat.sub_self]
                      rfl
  · have ek : k = 2 := by omega
    subst ek
    go_wp2_with fail
    refine (nothing_any s _).mono ?_
    rintro r w2 ⟨rfl, rfl⟩
    go_wp2_with fail
    go_ret
    exact ⟨rfl, (unhide HA0).mono hMs, n, by omega, (unhide HLsA).less (by omega)⟩

end Go.Proofs.YtdhobdmhnocbgaaDoor
