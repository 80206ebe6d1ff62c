/-
  Walks: the mesh: the list of records, one more; a label ahead of the origin.
-/
/-
  Walks: the mesh: texts of records; the zone's records.
-/
/-
  Walks: the mesh: the records of the nodes that are up.
-/
/-
  Walks: the mesh: the records of the aliases and of the services.
-/
/-
  Walks: the zone's records, as the program makes them.
-/
import Derived.Test.YtdhobdmhnocbgaaGreatSMwJ
import Derived.Test.YtdhobdmhnocbgaaGreatSTxE
import Derived.Test.YtdhobdmhnocbgaaGreatSAnyB
import Derived.Deep.RegionHeld3
namespace Go.Proofs.YtdhobdmhnocbgaaGreat
open Go.RowKit Zr

/-- The list of records in block R. -/
def Ls (w : World) (N R : Nat) (l : List RI) : Prop :=
  ∃ (a : Option Addr) (c : Nat), w.heap[R]? = some (.cells #[.slice a l.length c] 109 (0, 0)) ∧ N ≤ R ∧ w.ownsRow N 42 5 (.slice a l.length c) l.length (rcI l)

theorem Ls.lt {w : World} {N R : Nat} {l : List RI} (h : Ls w N R l) : N ≤ R ∧ R < w.heap.size := by
  obtain ⟨a, c, h1, h2, _⟩ := h
  exact ⟨h2, blk_lt h1⟩
theorem Ls.below {w w' : World} {N R : Nat} {l : List RI} (h : Ls w N R l) (hb : Below w.heap.size w w') : Ls w' N R l := by
  obtain ⟨a, c, h1, h2, h3⟩ := h
  exact ⟨a, c, (hb.block R (blk_lt h1)).trans h1, h2, owns_below h3 hb⟩

theorem ls_cells {w : World} {R : Nat} {v : Value} (h : w.heap[R]? = some (.cells #[v] 109 (0, 0))) : w.cell? ⟨R, 0, none⟩ = some v ∧ w.frozen? ⟨R, 0, none⟩ = false := by
  refine ⟨?_, frozen_of_blk h _⟩
  rw [cell_of_blk h]
  rfl

theorem rcI_more (l : List RI) (x : RI) : rcI (l ++ [x]) = rcI l ++ [.string x.name, .int .i64 x.ty, .int .i64 x.cl, .int .i64 x.ttl, .string x.data] := by
  unfold rcI; rw [List.flatMap_append]; rfl

theorem one5 {x1 x2 x3 : Int} {x0 x4 : ByteArray} : ∀ v ∈ ([.string x0, .int .i64 x1, .int .i64 x2, .int .i64 x3, .string x4] : List Value), v.oneCell' = true := by
  intro v hv
  simp at hv
  rcases hv with rfl | rfl | rfl | rfl | rfl <;> rfl

/-- Blocks of news stay. -/
def EvK (w w' : World) : Prop := ∀ (k : Nat) (cs : Array Value) (fr : Nat × Nat), w.heap[k]? = some (.cells cs 48 fr) → w'.heap[k]? = some (.cells cs 48 fr)
theorem EvK.refl (w : World) : EvK w w := fun _ _ _ h => h
theorem EvK.trans {a b c : World} (h : EvK a b) (k : EvK b c) : EvK a c := fun i cs fr hi => k i cs fr (h i cs fr hi)
theorem EvK.of_below {w w' : World} (h : Below w.heap.size w w') : EvK w w' := fun i _ _ hi => (h.block i (blk_lt hi)).trans hi
theorem EvK.owns {w w' : World} (h : EvK w w') {N n : Nat} {v : Value} {xs : List Value} (ho : w.ownsRow N 48 7 v n xs) : w'.ownsRow N 48 7 v n xs := by
  refine ⟨ho.1, ?_⟩
  rcases ho.2 with hn | ⟨g, cap, cur, hv, hb, hg, rest⟩
  · exact .inl hn
  · exact .inr ⟨g, cap, cur, hv, hb, h g _ _ hg, rest⟩

/-- append at one operation of a region that draws its order, onto whatever own row. -/
theorem oper_append_any {P : Program} {w : World} {o : Oper} {a : Act} {K : Act → World → Prop} {Q : Exit → Act → World → Prop} (s x : Operand) (t tx : TypeId)
    (ho : o.op = .call { callee := .builtin .append, args := #[s, x], argTypes := #[t, tx] })
    (base : Nat) (e : TypeId) (i : TypeInfo) (z : Value) (size bytes : Nat) (ht : P.underlying t = some (.slice e)) (hi : P.info? e = some i) (hz : i.zero = some z)
    (hsize : i.size = size) (hby : i.bytes = bytes) (hzs : z.cells.size = size)
    (v : Value) (n : Nat) (xs : List Value) (hs : a.eval s = v) (hown : w.ownsRow base e size v n xs)
    (y : Value) (m : Nat) (news : List Value) (hx : a.eval x = y) (hsrc : Src P size tx y m news w)
    (h63 : n + m ≤ maxLen) (hbytes : (n + m) * bytes ≤ 140737488355328) (hbase : base ≤ w.heap.size)
    (h : ∀ a' c' w', w'.ownsRow base e size (.slice a' (n + m) c') (n + m) (xs ++ news) → w.grownBy w' v.ownBlock → ((Value.slice a' (n + m) c').ownBlock = v.ownBlock ∨ (Value.slice a' (n + m) c').ownBlock = some w.heap.size) → K (a.put o.dst (.slice a' (n + m) c')) w') : Oper.wp P o a w K Q := by
  obtain ⟨v', w', hr, h2, h3, h4⟩ := run_append_row (P := P) w base t tx o.type e i z size bytes ht hi hz hsize hby hzs v n xs hown y m news hsrc h63 hbytes hbase
  unfold Oper.wp execOp
  simp only [ho, resolve, invoke, builtin, Sem.run_bind, Sem.run_pure, Result.andThen_ok, List.map_toArray, List.map_cons, List.map_nil, hs, hx, hr]
  obtain ⟨a', c', rfl⟩ : ∃ a' c', v' = .slice a' (n + m) c' := by
    rcases h2.2 with ⟨g1, g2⟩ | ⟨g, cap, cur, g1, g2⟩
    · exact ⟨none, 0, by rw [g1, g2]⟩
    · exact ⟨_, _, g1⟩
  exact h a' c' w' h2 h3 h4

theorem below_drewA {B : Nat} {a w : World} (h : Below B a w) (n : Nat) : Below B a (w.drewN n) := ⟨h.os, h.tape, h.output, h.size, h.block⟩

set_option maxRecDepth 100000 in
set_option maxHeartbeats 2000000 in
theorem add_m (N R : Nat) (l : List RI) (nm dt : ByteArray) (ty : Int) (w : World) (h : Ls w N R l) (hl : l.length ≤ 134217728) :
    Calls Tryz.prog 71 #[.pointer (some ⟨R, 0, none⟩), .string nm, .int .i64 ty, .string dt] w fun e w' => e = .returned (.tuple #[]) ∧ Ls w' N R (l ++ [madeR nm ty dt]) ∧ Below N w w' ∧ EvK w w' := by
  obtain ⟨a, c, hR, hNR, o1⟩ := h
  have hlt := blk_lt hR
  obtain ⟨c0, z0⟩ := ls_cells hR
  obtain ⟨i0, hi, hz0, hz1, hz2⟩ := info_parts Tryz.info42
  have Hi := hide hi
  have Hz0 := hide hz0
  have Hz1 := hide hz1
  have Hz2 := hide hz2
  have HR := hide hR
  have O1 := hide o1
  clear hi hz0 hz1 hz2 hR o1
  go_enter Tryz.func71, Tryz.ntmps71
  obtain ⟨X, hX⟩ : ∃ X, w.heap.size = X := ⟨_, rfl⟩
  have hneX : (Value.slice a l.length c).ownBlock ≠ some X := fun he => by have := ((unhide O1).lt X he).2; omega
  go_wp2_with fail
  obtain ⟨w1, hw1⟩ : ∃ w1, w.alloc (.cells #[.string nm, .int .i64 ty, .int .i64 1, .int .i64 30, .string dt] 42) = w1 := ⟨_, rfl⟩
  have hb1 : Below w.heap.size w w1 := by rw [← hw1]; exact (Below.refl _ _).alloc (Nat.le_refl _) _
  have hx1 : w1.heap[X]? = some (.cells #[.string nm, .int .i64 ty, .int .i64 1, .int .i64 30, .string dt] 42 (0, 0)) := by rw [← hw1, ← hX]; exact heap_alloc_new _ _
  rw [hw1]
  have hR1 := (hb1.block R hlt).trans (unhide HR)
  have O2 := hide (owns_below (unhide O1) hb1)
  obtain ⟨d0, e0⟩ := ls_cells hR1
  obtain ⟨⟨x0, x1, x2, x3, x4⟩, _⟩ := cells5 hx1
  have hl1 := blk_lt hR1
  have hl2 := blk_lt hx1
  have HR1 := hide hR1
  have HB1 := hide hb1
  have HX1 := hide hx1
  have hw0 : w.heap.size ≤ w1.heap.size := hb1.size
  have hNw : N ≤ w.heap.size := by omega
  clear hw1 hb1 hR1 hx1 c0 z0 O1 HR hX
  refine wp_region_noPanic ?_
  refine wp_region_anyB (fun u => u.cell? ⟨R, 0, none⟩ = some (.slice a l.length c) ∧ u.cell? ⟨X, 0, none⟩ = some (.string nm) ∧ u.cell? ⟨X, 1, none⟩ = some (.int .i64 ty) ∧ u.cell? ⟨X, 2, none⟩ = some (.int .i64 1) ∧ u.cell? ⟨X, 3, none⟩ = some (.int .i64 30) ∧ u.cell? ⟨X, 4, none⟩ = some (.string dt)) 10 (by kernel_rfl) ?_
  have hS1 : w1.drew.cell? ⟨R, 0, none⟩ = some (.slice a l.length c) ∧ w1.drew.cell? ⟨X, 0, none⟩ = some (.string nm) ∧ w1.drew.cell? ⟨X, 1, none⟩ = some (.int .i64 ty) ∧ w1.drew.cell? ⟨X, 2, none⟩ = some (.int .i64 1) ∧ w1.drew.cell? ⟨X, 3, none⟩ = some (.int .i64 30) ∧ w1.drew.cell? ⟨X, 4, none⟩ = some (.string dt) := ⟨d0, x0, x1, x2, x3, x4⟩
  refine anyB_take (i := 0) (v := ?_) rfl rfl (by kernel_rfl) (by kernel_rfl) (by kernel_rfl) (by kernel_rfl) (fun _ _ _ h => h) (Or.inl ⟨by rfl, ?_⟩) hS1 ?_
  rotate_left
  · intro u hu
    obtain ⟨u0, u1, u2, u3, u4, u5⟩ := hu
    go_simp
    try with_reducible rfl
  try simp only [Act.put]
  refine anyB_take (i := 1) (v := ?_) rfl rfl (by kernel_rfl) (by kernel_rfl) (by kernel_rfl) (by kernel_rfl) (fun _ _ _ h => h) (Or.inl ⟨by rfl, ?_⟩) hS1 ?_
  rotate_left
  · intro u hu
    obtain ⟨u0, u1, u2, u3, u4, u5⟩ := hu
    go_simp
    try with_reducible rfl
  try simp only [Act.put]
  refine anyB_take (i := 2) (v := ?_) rfl rfl (by kernel_rfl) (by kernel_rfl) (by kernel_rfl) (by kernel_rfl) (fun _ _ _ h => h) (Or.inl ⟨by rfl, ?_⟩) hS1 ?_
  rotate_left
  · intro u hu
    obtain ⟨u0, u1, u2, u3, u4, u5⟩ := hu
    go_simp
    try with_reducible rfl
  try simp only [Act.put]
  refine anyB_take (i := 3) (v := ?_) rfl rfl (by kernel_rfl) (by kernel_rfl) (by kernel_rfl) (by kernel_rfl) (fun _ _ _ h => h) (Or.inl ⟨by rfl, ?_⟩) hS1 ?_
  rotate_left
  · intro u hu
    obtain ⟨u0, u1, u2, u3, u4, u5⟩ := hu
    go_simp
    try with_reducible rfl
  try simp only [Act.put]
  refine anyB_take (i := 4) (v := ?_) rfl rfl (by kernel_rfl) (by kernel_rfl) (by kernel_rfl) (by kernel_rfl) (fun _ _ _ h => h) (Or.inl ⟨by rfl, ?_⟩) hS1 ?_
  rotate_left
  · intro u hu
    obtain ⟨u0, u1, u2, u3, u4, u5⟩ := hu
    go_simp
    try with_reducible rfl
  try simp only [Act.put]
  refine anyB_take (i := 5) (v := ?_) rfl rfl (by kernel_rfl) (by kernel_rfl) (by kernel_rfl) (by kernel_rfl) (fun _ _ _ h => h) (Or.inl ⟨by rfl, ?_⟩) hS1 ?_
  rotate_left
  · intro u hu
    obtain ⟨u0, u1, u2, u3, u4, u5⟩ := hu
    go_simp
    try with_reducible rfl
  try simp only [Act.put]
  refine anyB_one (i := 6) rfl (by kernel_rfl) (fun K hK => ?_)
  go_simp
  have hA : Below w1.heap.size w1 (w1.alloc (.cells #[.string nm, .int .i64 ty, .int .i64 1, .int .i64 30, .string dt] 42)).drew := below_drewA ((Below.refl w1.heap.size w1).alloc (Nat.le_refl _) _) 1
  have hS2 := And.intro ((hA.cell (p := ⟨R, 0, none⟩) hl1).trans hS1.1) (And.intro ((hA.cell (p := ⟨X, 0, none⟩) hl2).trans hS1.2.1) (And.intro ((hA.cell (p := ⟨X, 1, none⟩) hl2).trans hS1.2.2.1) (And.intro ((hA.cell (p := ⟨X, 2, none⟩) hl2).trans hS1.2.2.2.1) (And.intro ((hA.cell (p := ⟨X, 3, none⟩) hl2).trans hS1.2.2.2.2.1) ((hA.cell (p := ⟨X, 4, none⟩) hl2).trans hS1.2.2.2.2.2)))))
  refine hK _ _ (fun _ => hS2) ?_
  clear hK K
  try simp only [Act.put]
  have O3 := hide (owns_below (unhide O2) hA)
  have hR3 := (hA.block R hl1).trans (unhide HR1)
  have HR3 := hide hR3
  have HA := hide hA
  refine anyB_one (i := 7) rfl (by kernel_rfl) (fun K hK => ?_)
  rw [if_pos (by kernel_rfl)]
  refine oper_append_any _ _ 30 30 rfl N 42 i0 (.agg #[.string ⟨#[]⟩, .int .i64 0, .int .i64 0, .int .i64 0, .string ⟨#[]⟩]) 5 56 Tryz.underlying30 (unhide Hi) (unhide Hz0) (unhide Hz1) (unhide Hz2) rfl (.slice a l.length c) l.length (rcI l) (by rfl) (unhide O3) (.slice (some ⟨w1.heap.size, 0, none⟩) 1 1) 1 [.string nm, .int .i64 ty, .int .i64 1, .int .i64 30, .string dt] (by rfl) (Src.ofSlice _ Tryz.underlying30 ⟨w1.heap.size, 0, none⟩ 1 1 _ rfl (cell_five_new _ _ _ _ _ _ _ _ rfl) one5) (by unfold maxLen; omega) (by omega) (by show N ≤ (w1.alloc _).heap.size; simp; omega) ?_
  intro a1 c1 w9 hown9 hgrow9 hat9
  have hR9 := blk_kind (unhide O3) hgrow9 (unhide HR3) (by decide)
  obtain ⟨n0, p0⟩ := ls_cells hR9
  have hx9 := (hgrow9.block X (show X < (w1.alloc (.cells #[.string nm, .int .i64 ty, .int .i64 1, .int .i64 30, .string dt] 42)).heap.size by simp; omega) (fun e => hneX e.symm)).trans ((hA.block X hl2).trans (unhide HX1))
  obtain ⟨⟨m0, m1, m2, m3, m4⟩, _⟩ := cells5 hx9
  have hS9 : w9.cell? ⟨R, 0, none⟩ = some (.slice a l.length c) ∧ w9.cell? ⟨X, 0, none⟩ = some (.string nm) ∧ w9.cell? ⟨X, 1, none⟩ = some (.int .i64 ty) ∧ w9.cell? ⟨X, 2, none⟩ = some (.int .i64 1) ∧ w9.cell? ⟨X, 3, none⟩ = some (.int .i64 30) ∧ w9.cell? ⟨X, 4, none⟩ = some (.string dt) := ⟨n0, m0, m1, m2, m3, m4⟩
  have hl9 := blk_lt hR9
  refine hK _ _ (fun _ => hS9) ?_
  clear hK K
  try simp only [Act.put]
  refine anyB_one (i := 8) rfl (by kernel_rfl) (fun K hK => ?_)
  go_simp
  refine hK _ _ (fun _ => hS9) ?_
  clear hK K
  try simp only [Act.put]
  refine anyB_one (i := 9) rfl (by kernel_rfl) (fun K hK => ?_)
  go_simp
  refine hK _ _ (fun _ => hS9) ?_
  clear hK K
  try simp only [Act.put]
  refine anyB_one (i := 10) rfl (by kernel_rfl) (fun K hK => ?_)
  go_simp
  refine hK _ _ (fun h => absurd rfl h) (anyB_done (by kernel_rfl) ?_ _)
  clear hK K
  refine NoPanic.normal ?_
  have hB9 : Below N w w9 := by
    have h1 := below_append (unhide O3) hgrow9 (by show N ≤ (w1.alloc _).heap.size; simp; omega)
    exact ((unhide HB1).mono (by omega)).trans (((unhide HA).mono (by omega)).trans h1)
  have hw : Ls (w9.setCell ⟨R, 0, none⟩ (.slice a1 (l.length + 1) c1)) N R (l ++ [madeR nm ty dt]) := by
    refine ⟨a1, c1, ?_, hNR, ?_⟩
    · rw [List.length_append]
      exact blk_set hR9 0 _
    · rw [List.length_append, rcI_more]
      exact owns_set_kind hown9 hR9 (by decide) 0 _
  have hk9 : EvK w (w9.setCell ⟨R, 0, none⟩ (.slice a1 (l.length + 1) c1)) := by
    refine ((EvK.of_below (unhide HB1)).trans (EvK.of_below (unhide HA))).trans fun k cs fr hk => ?_
    have h9 := blk_kind (unhide O3) hgrow9 hk (by decide)
    by_cases e : k = R
    · subst e
      rw [hR9] at h9
      cases h9
    · exact (blk_set_other e 0 _).trans h9
  have HK9 := hide hk9
  have HW := hide hw
  have HB9 := hide (hB9.setCell (p := ⟨R, 0, none⟩) hNR (.slice a1 (l.length + 1) c1))
  clear hw hB9 hk9 hS9 hown9 hgrow9 hx9 hR9
  go_wp2_with fail
  go_end0
  exact ⟨rfl, unhide HW, unhide HB9, unhide HK9⟩

end Go.Proofs.YtdhobdmhnocbgaaGreat

namespace Go.Proofs.YtdhobdmhnocbgaaGreat
open Go.RowKit Zr

theorem one_owns (w : World) (n : Nat) (h : n < 256) : (w.alloc (.cells #[.int .u8 (n : Int)] 5)).ownsRow w.heap.size 5 1 (.slice (some ⟨w.heap.size, 0, none⟩) 1 1) (one n).size (byteCells (one n)) := by
  refine ⟨rfl, .inr ⟨w.heap.size, 1, _, rfl, Nat.le_refl _, heap_alloc_new _ _, Nat.le_refl _, by decide, rfl, ?_⟩⟩
  have e : byteCells (one n) = [.int .u8 (((UInt8.ofNat n).toNat : Nat) : Int)] := rfl
  rw [e, UInt8.toNat_ofNat']
  show [_] = _
  congr 2
  omega

set_option maxRecDepth 100000 in
set_option maxHeartbeats 1000000 in
theorem counted_m (s : ByteArray) (w : World) (h : s.size < 256) : Calls Tryz.prog 106 #[.string s] w fun e w' => e = .returned (.string (one s.size ++ s)) ∧ Below w.heap.size w w' := by
  have HO := hide (one_owns w s.size h)
  have h1 : (one s.size).size = 1 := rfl
  obtain ⟨y, hy⟩ : ∃ y, one s.size = y := ⟨_, rfl⟩
  rw [hy] at HO h1 ⊢
  clear hy
  go_enter Tryz.func106, Tryz.ntmps106
  go_wp2_with fail
  rw [run_bytes_row _ 96 9 5 Tryz.underlying96 Tryz.underlying5 Tryz.underlying9 w.heap.size _ y (unhide HO)]
  go_wp2_with fail
  go_ret
  exact ⟨rfl, (Below.refl _ _).alloc (Nat.le_refl _) _⟩

set_option maxRecDepth 100000 in
set_option maxHeartbeats 1000000 in
theorem below_m (s : ByteArray) (w : World) (h : s.size < 256) : Calls Tryz.prog 105 #[.string s] w fun e w' => e = .returned (.string (underP s)) ∧ Below w.heap.size w w' := by
  have hz : (one s.size ++ s).size = 1 + s.size := by rw [ByteArray.size_append]; rfl
  obtain ⟨r, hr⟩ : ∃ r, underP s = r := ⟨_, rfl⟩
  have hr2 : one s.size ++ s ++ originB = r := hr
  rw [hr]
  have HR := hide hr2
  have key := counted_m s w h
  generalize one s.size ++ s = y at *
  have Key := hide key
  clear hr hr2 key
  go_enter Tryz.func105, Tryz.ntmps105
  go_wp2_with fail
  refine (unhide Key).mono ?_
  rintro e w1 ⟨rfl, hb1⟩
  go_wp2_with fail
  go_ret
  exact ⟨by rw [← unhide HR]; rfl, hb1⟩

/-- The numbers of the SOA. -/
def soaN (n : Nat) : Nat → Nat
  | 0 => n
  | 1 => 3600
  | 2 => 600
  | 3 => 86400
  | _ => 30
def soaTo (n : Nat) : Nat → ByteArray
  | 0 => serverB ++ adminB
  | j + 1 => soaTo n j ++ q4 (soaN n j)

theorem soaTo_size (n : Nat) : ∀ j, (soaTo n j).size = 29 + 4 * j
  | 0 => rfl
  | j + 1 => by
    show (soaTo n j ++ q4 (soaN n j)).size = _
    rw [ByteArray.size_append, soaTo_size n j, q4_size]
    omega
theorem soaN_lt (n j : Nat) (h : n < 4294967296) : soaN n j < 4294967296 := by
  unfold soaN
  split <;> omega
theorem soa_cell {w : World} {B n : Nat} {t : TypeId} (h : w.heap[B]? = some (.cells #[.int .i64 n, .int .i64 3600, .int .i64 600, .int .i64 86400, .int .i64 30] t (0, 0))) (j : Nat) (hj : j < 5) : w.cell? ⟨B, j, none⟩ = some (.int .i64 (soaN n j : Nat)) := by
  rw [cell_of_blk h]
  match j, hj with
  | 0, _ => rfl
  | 1, _ => rfl
  | 2, _ => rfl
  | 3, _ => rfl
  | 4, _ => rfl

set_option maxRecDepth 100000 in
set_option maxHeartbeats 2000000 in
theorem soa_m (n : Nat) (w : World) (h : n < 4294967296) : Calls Tryz.prog 70 #[.int .i64 n] w fun e w' => e = .returned (.string (soaB n)) ∧ Below w.heap.size w w' := by
  obtain ⟨B, hB⟩ : ∃ B, w.heap.size = B := ⟨_, rfl⟩
  have HSz := hide (soaTo_size n)
  have HN := hide (fun j => soaN_lt n j h)
  have HBq := hide hB
  go_enter Tryz.func70, Tryz.ntmps70
  go_wp2_with fail
  have hblk := heap_alloc_new w (.cells #[.int .i64 n, .int .i64 3600, .int .i64 600, .int .i64 86400, .int .i64 30] 139)
  have hb0 := (Below.refl w.heap.size w).alloc (Nat.le_refl _) (.cells #[.int .i64 n, .int .i64 3600, .int .i64 600, .int .i64 86400, .int .i64 30] 139)
  rw [hB] at hblk hb0
  have HK := hide hblk
  have HB0 := hide hb0
  have hs0 : B < (w.alloc (.cells #[.int .i64 n, .int .i64 3600, .int .i64 600, .int .i64 86400, .int .i64 30] 139)).heap.size := by simp; omega
  clear hblk hb0 hB
  generalize w.alloc (.cells #[.int .i64 n, .int .i64 3600, .int .i64 600, .int .i64 86400, .int .i64 30] 139) = w1 at *
  go_loopw [3, 5] (fun s i w' => ∃ (j : Nat) (d : ByteArray), j ≤ 5 ∧ i = .int .i64 j ∧ s = .string d ∧ Hid (soaTo n j = d) ∧ Hid (w'.heap[B]? = some (.cells #[.int .i64 n, .int .i64 3600, .int .i64 600, .int .i64 86400, .int .i64 30] 139 (0, 0))) ∧ Hid (Below B w w') ∧ B < w'.heap.size) (fun _ i _ => 5 - (intOf i).toNat)
  case atStart => exact ⟨0, _, Nat.zero_le _, rfl, rfl, hide rfl, HK, HB0, hs0⟩
  case round =>
    obtain ⟨j, d, hj, rfl, rfl, HD, HK, HB, hs⟩ := hrel
    have hz := unhide HSz j
    rw [unhide HD] at hz
    by_cases cj : j < 5
    · have x0 := soa_cell (unhide HK) j cj
      have hn := unhide HN j
      have hD2 : soaTo n (j + 1) = d ++ q4 (soaN n j) := by rw [← unhide HD]; rfl
      have HD2 := hide hD2
      generalize soaN n j = m at *
      clear hD2
      go_wp2_with fail
      refine (long_any m _ hn).mono ?_
      rintro e w2 ⟨rfl, hb2⟩
      have hq := q4_size m
      generalize q4 m = q at *
      have HK2 := hide ((hb2.block B hs).trans (unhide HK))
      have HB2 := hide ((unhide HB).trans (hb2.mono (Nat.le_of_lt hs)))
      have hs2 : B < w2.heap.size := Nat.lt_of_lt_of_le hs hb2.size
      clear hb2
      go_wp2_with fail
      go_roundw
      case rel => exact ⟨j + 1, _, by omega, by go_num, rfl, HD2, HK2, HB2, hs2⟩
      case measure => simp [intOf]; omega
    · have ej : j = 5 := by omega
      subst ej
      have hd : soaB n = d := unhide HD
      have HD2 := hide hd
      clear hd hz
      go_wp2_with fail
      go_ret
      exact ⟨by rw [unhide HD2]; rfl, by rw [unhide HBq]; exact unhide HB⟩

end Go.Proofs.YtdhobdmhnocbgaaGreat

namespace Go.Proofs.YtdhobdmhnocbgaaGreat
open Go.RowKit Zr

/-- News that count of nodes that are up. -/
def UpOk (up : List Ev) : Prop := ∀ i (h : i < up.length), up[i].node.size ≤ 15 ∧ (up[i].addr.size = 4 ∨ up[i].addr.size = 16) ∧ 0 ≤ up[i].port ∧ up[i].port ≤ 65535 ∧ up[i].text.size ≤ 60 ∧ up[i].alias.size ≤ 15

theorem nodeR_take (up : List Ev) (j : Nat) (h : j < up.length) : (up.take (j + 1)).flatMap nodeR = (up.take j).flatMap nodeR ++ nodeR up[j] := by
  rw [List.take_succ_eq_append_getElem h, List.flatMap_append]
  simp
theorem nodeR_len (e : Ev) : 1 ≤ (nodeR e).length ∧ (nodeR e).length ≤ 2 := by
  unfold nodeR
  rw [List.length_cons]
  by_cases c : e.text = ⟨#[]⟩
  · rw [if_pos c]; simp
  · rw [if_neg c]; simp
theorem nodeR_to (up : List Ev) : ∀ j, ((up.take j).flatMap nodeR).length ≤ 2 * j
  | 0 => by simp
  | j + 1 => by
    have ih := nodeR_to up j
    rcases Nat.lt_or_ge j up.length with h | h
    · rw [nodeR_take up j h, List.length_append]
      have := (nodeR_len up[j]).2
      omega
    · rw [List.take_of_length_le (by omega)]
      rw [List.take_of_length_le h] at ih
      omega

set_option maxRecDepth 100000 in
set_option maxHeartbeats 4000000 in
theorem addHosts_m (N R : Nat) (l : List RI) (up : List Ev) (a : Option Addr) (c : Nat) (w : World) (h : Ls w N R l) (hrow : RowAt w N a (evC up)) (hup : up.length ≤ 33554432) (hl : l.length ≤ 33554432) (hok : UpOk up) :
    Calls Tryz.prog 72 #[.pointer (some ⟨R, 0, none⟩), .slice a up.length c] w fun e w' => e = .returned (.tuple #[]) ∧ Ls w' N R (l ++ up.flatMap nodeR) ∧ Below N w w' := by
  have HLs := hide h
  have HRow := hide hrow
  have HOk := hide hok
  have HT := hide (nodeR_take up)
  have HTL := hide (nodeR_to up)
  clear h hrow hok
  go_enter Tryz.func72, Tryz.ntmps72
  go_wp2_with fail
  go_loopw [4] (fun i w' => ∃ (j : Nat), j ≤ up.length ∧ i = .int .i64 j ∧ Hid (Ls w' N R (l ++ (up.take j).flatMap nodeR)) ∧ Hid (Below N w w')) (fun i _ => up.length - (intOf i).toNat)
  case atStart => exact ⟨0, Nat.zero_le _, rfl, hide (by simpa using unhide HLs), hide (Below.refl _ _)⟩
  case round =>
    obtain ⟨j, hj, rfl, HL, HB⟩ := hrel
    obtain ⟨hNR, hRl⟩ := (unhide HL).lt
    by_cases cj : j < up.length
    · obtain ⟨b, o, rfl, hb, x0, x1, x2, x3, x4, x5, x6⟩ := row_e ((unhide HRow).below (unhide HB)) j cj
      obtain ⟨s1, s2, s3, s4, s5, s6⟩ := unhide HOk j cj
      have ht := unhide HT j cj
      have htl := unhide HTL j
      generalize hX : (up.take j).flatMap nodeR = X at *
      clear hX
      have hlx : (l ++ X).length ≤ 134217726 := by rw [List.length_append]; omega
      generalize up[j] = k at *
      obtain ⟨kd, nd, ic, ad, pt, tx, al⟩ := k
      simp only at x0 x1 x2 x3 x4 x5 x6 s1 s2 s3 s4 s5 s6 ht
      have hRes : ∀ Y, Y = (l ++ X) ++ nodeR ⟨kd, nd, ic, ad, pt, tx, al⟩ → Y = l ++ (up.take (j + 1)).flatMap nodeR := fun Y h => by rw [h, ht, List.append_assoc]
      have HRes := hide hRes
      clear ht htl hRes
      -- the address
      have kadd := fun (W : World) (ty : Int) (h : Ls W N R (l ++ X)) => add_m N R (l ++ X) (underP nd) ad ty W h (by omega)
      have KAdd := hide kadd
      clear kadd
      obtain ⟨ty, hty⟩ : ∃ ty : Int, (if ad.size = 16 then (28 : Int) else 1) = ty := ⟨_, rfl⟩
      have kbel := fun (W : World) => below_m nd W (by omega)
      have KBel := hide kbel
      clear kbel
      generalize hun : underP nd = un at *
      have hN1 : nodeR ⟨kd, nd, ic, ad, pt, tx, al⟩ = madeR un ty ad :: (if tx = ⟨#[]⟩ then [] else [madeR un 16 (one tx.size ++ tx)]) := by unfold nodeR; simp only; rw [hty, hun]
      have HN1 := hide hN1
      clear hN1 hun
      have hcase : (((ad.size : Int) == 16) = true ∧ ty = 28) ∨ (((ad.size : Int) == 16) = false ∧ ty = 1) := by
        rcases s2 with q | q
        · exact .inr ⟨beq_eq_false_iff_ne.2 (by omega), by rw [← hty, if_neg (by omega)]⟩
        · exact .inl ⟨by rw [beq_iff_eq]; omega, by rw [← hty, if_pos q]⟩
      clear hty
      have hbN : b < wr.heap.size := by omega
      rcases hcase with ⟨d16, rfl⟩ | ⟨d16, rfl⟩
      all_goals
        go_wp2_with fail
        refine (unhide KBel _).mono ?_
        rintro e w1 ⟨rfl, hb1⟩
        have HL1 := hide ((unhide HL).below hb1)
        have y3 := (hb1.cell (p := ⟨b, o + j * 7 + 3, none⟩) hbN).trans x3
        have y5 := (hb1.cell (p := ⟨b, o + j * 7 + 5, none⟩) hbN).trans x5
        have HB1 := hide ((unhide HB).trans (hb1.mono (by omega)))
        have hb1s : b < w1.heap.size := Nat.lt_of_lt_of_le hbN hb1.size
        clear hb1 x0 x1 x2 x3 x4 x5 x6
        go_wp2_with fail
        refine (unhide KAdd _ _ (unhide HL1)).mono ?_
        rintro e w2 ⟨rfl, hL2, hb2, _⟩
        have z5 := (hb2.cell (p := ⟨b, o + j * 7 + 5, none⟩) hb).trans y5
        have HL2 := hide hL2
        have HB2 := hide ((unhide HB1).trans hb2)
        have hN2 := hL2.lt.1
        have hR2 := hL2.lt.2
        clear y3 y5 hL2 hb2
        by_cases ct : tx = ⟨#[]⟩
        · have e0 : tx.toList.isEmpty = true := (empty_iff tx).2 ct
          have hn1 := unhide HN1
          rw [if_pos ct] at hn1
          have HFin := hide (unhide HRes _ (by rw [hn1]))
          clear hn1 ct
          go_wp2_with fail
          go_roundw
          case rel => exact ⟨j + 1, by omega, by go_num, hide (by rw [← unhide HFin]; exact unhide HL2), HB2⟩
          case measure => simp [intOf]; omega
        · have e0 : tx.toList.isEmpty = false := by
            cases e : tx.toList.isEmpty with
            | false => rfl
            | true => exact absurd ((empty_iff tx).1 e) ct
          have hn1 := unhide HN1
          rw [if_neg ct] at hn1
          have HFin := hide (unhide HRes _ (by rw [hn1]))
          clear hn1 ct
          go_wp2_with fail
          refine (counted_m tx _ (by omega)).mono ?_
          rintro e w3 ⟨rfl, hb3⟩
          have HL3 := hide ((unhide HL2).below hb3)
          have HB3 := hide ((unhide HB2).trans (hb3.mono (by omega)))
          clear hb3
          generalize one tx.size ++ tx = dd at *
          go_wp2_with fail
          refine (add_m N R _ un dd 16 _ (unhide HL3) (by rw [List.length_append]; show (l ++ X).length + 1 ≤ _; omega)).mono ?_
          rintro e w4 ⟨rfl, hL4, hb4, _⟩
          have HL4 := hide hL4
          have HB4 := hide ((unhide HB3).trans hb4)
          clear hL4 hb4
          go_wp2_with fail
          go_roundw
          case rel =>
            refine ⟨j + 1, by omega, by go_num, hide ?_, HB4⟩
            rw [← unhide HFin]
            have := unhide HL4
            rw [List.append_assoc] at this
            exact this
          case measure => simp [intOf]; omega
    · have ej : j = up.length := by omega
      subst ej
      have hL := unhide HL
      rw [List.take_length] at hL
      have HL2 := hide hL
      clear hL
      go_wp2_with fail
      go_end0
      exact ⟨rfl, unhide HL2, unhide HB⟩

end Go.Proofs.YtdhobdmhnocbgaaGreat

namespace Go.Proofs.YtdhobdmhnocbgaaGreat
open Go.RowKit Zr

theorem map_take {α β : Type} (f : α → β) (l : List α) (j : Nat) (h : j < l.length) : (l.take (j + 1)).map f = (l.take j).map f ++ [f l[j]] := by
  rw [List.take_succ_eq_append_getElem h, List.map_append]
  rfl

theorem aliM_mem {up : List Ev} {L : List En} : ∀ {n : Nat} {e : Ev}, e ∈ aliM up L n → ∃ x, x ∈ L ∧ x.ev = e
  | 0, e, h => by simp [aliM] at h
  | n + 1, e, h => by
    unfold aliM at h
    split at h
    · next hn =>
      split at h
      · exact aliM_mem h
      · rcases List.mem_append.1 h with h | h
        · exact aliM_mem h
        · rw [List.mem_singleton] at h
          exact ⟨_, List.getElem_mem hn, h.symm⟩
    · exact aliM_mem h
theorem aliM_up {up : List Ev} {n : Nat} {e : Ev} (h : e ∈ aliM up (sortP (aliEs up)) n) : e ∈ up := by
  obtain ⟨x, hx, rfl⟩ := aliM_mem h
  obtain ⟨y, hy, rfl⟩ := List.mem_map.1 (sort_mem.1 hx)
  exact (List.mem_filter.1 hy).1
theorem aliM_len (up : List Ev) (L : List En) : ∀ n, (aliM up L n).length ≤ n
  | 0 => by simp [aliM]
  | n + 1 => by
    have ih := aliM_len up L n
    unfold aliM
    split
    · split
      · omega
      · rw [List.length_append]; simp; omega
    · omega

set_option maxRecDepth 100000 in
set_option maxHeartbeats 4000000 in
theorem addAliases_m (N R : Nat) (l : List RI) (up : List Ev) (a : Option Addr) (c : Nat) (w : World) (h : Ls w N R l) (hrow : RowAt w N a (evC up)) (hup : up.length ≤ 33554432) (hl : l.length ≤ 67108864) (hok : UpOk up) (hri : Rising up) :
    Calls Tryz.prog 73 #[.pointer (some ⟨R, 0, none⟩), .slice a up.length c] w fun e w' => e = .returned (.tuple #[]) ∧ Ls w' N R (l ++ (aliM up (sortP (aliEs up)) (sortP (aliEs up)).length).map cnR) ∧ Below N w w' := by
  obtain ⟨hNR0, hR0⟩ := h.lt
  have key := aliases_m up a c N w hrow (by omega) hup hri
  have hln : (aliM up (sortP (aliEs up)) (sortP (aliEs up)).length).length ≤ up.length := by
    have h1 := aliM_len up (sortP (aliEs up)) (sortP (aliEs up)).length
    rw [sort_length] at h1
    have h2 := aliEs_len up up.length
    rw [List.take_length] at h2
    rw [sort_length]
    omega
  have hsz : ∀ i (hi : i < (aliM up (sortP (aliEs up)) (sortP (aliEs up)).length).length), (aliM up (sortP (aliEs up)) (sortP (aliEs up)).length)[i].node.size ≤ 15 ∧ (aliM up (sortP (aliEs up)) (sortP (aliEs up)).length)[i].alias.size ≤ 15 := fun i hi => by
    obtain ⟨k, hk, he⟩ := List.mem_iff_getElem.1 (aliM_up (List.getElem_mem hi))
    rw [← he]
    have := hok k hk
    exact ⟨this.1, this.2.2.2.2.2⟩
  generalize hA : aliM up (sortP (aliEs up)) (sortP (aliEs up)).length = A at *
  have HLs := hide h
  have HSz := hide hsz
  have Key := hide key
  have HT := hide (map_take cnR A)
  clear h hrow hok key hsz hA
  go_enter Tryz.func73, Tryz.ntmps73
  go_wp2_with fail
  refine (unhide Key).mono ?_
  rintro e w1 ⟨a1, c1, rfl, o1, b1⟩
  have HL1 := hide ((unhide HLs).below b1)
  have HO1 := hide o1
  have HB1 := hide (b1.mono (show N ≤ w.heap.size by omega))
  clear o1 b1 Key HLs
  go_wp2_with fail
  go_loopw [5] (fun i w' => ∃ (j : Nat), j ≤ A.length ∧ i = .int .i64 j ∧ Hid (Ls w' N R (l ++ (A.take j).map cnR)) ∧ Hid (Below N w w') ∧ Hid (w'.ownsRow w.heap.size 48 7 (.slice a1 A.length c1) A.length (evC A))) (fun i _ => A.length - (intOf i).toNat)
  case atStart => exact ⟨0, Nat.zero_le _, rfl, hide (by simpa using unhide HL1), HB1, HO1⟩
  case round =>
    clear HL1 HB1 HO1
    obtain ⟨j, hj, rfl, HL, HB, HO⟩ := hrel
    obtain ⟨hNR, hRl⟩ := (unhide HL).lt
    by_cases cj : j < A.length
    · obtain ⟨b, o, rfl, hb, x0, x1, x2, x3, x4, x5, x6⟩ := row_e (owns_rowAt (unhide HO)) j cj
      obtain ⟨s1, s2⟩ := unhide HSz j cj
      have ht := unhide HT j cj
      have hll : (l ++ (A.take j).map cnR).length ≤ 134217727 := by rw [List.length_append, List.length_map, List.length_take]; omega
      have hRes : l ++ (A.take (j + 1)).map cnR = (l ++ (A.take j).map cnR) ++ [cnR A[j]] := by rw [ht, List.append_assoc]
      have HRes := hide hRes
      clear ht hRes
      generalize hX : l ++ (A.take j).map cnR = X at *
      clear hX
      generalize A[j] = k at *
      obtain ⟨kd, nd, ic, ad, pt, tx, al⟩ := k
      simp only at x0 x1 x2 x3 x4 x5 x6 s1 s2 HRes
      have kb1 := fun (W : World) => below_m al W (by omega)
      have kb2 := fun (W : World) => below_m nd W (by omega)
      have hcn : cnR ⟨kd, nd, ic, ad, pt, tx, al⟩ = madeR (underP al) 5 (underP nd) := rfl
      rw [hcn] at HRes
      generalize underP al = ual at *
      generalize underP nd = und at *
      have KB1 := hide kb1
      have KB2 := hide kb2
      clear kb1 kb2 hcn
      go_wp2_with fail
      refine (unhide KB1 _).mono ?_
      rintro e w2 ⟨rfl, hb2⟩
      have y1 := (hb2.cell (p := ⟨b, o + j * 7 + 1, none⟩) hb).trans x1
      have HL2 := hide ((unhide HL).below hb2)
      have HB2 := hide ((unhide HB).trans (hb2.mono (show N ≤ wr.heap.size by omega)))
      have HO2 := hide (owns_below (unhide HO) hb2)
      have hs2 : wr.heap.size ≤ w2.heap.size := hb2.size
      clear hb2 x0 x1 x2 x3 x4 x5 x6
      go_wp2_with fail
      refine (unhide KB2 _).mono ?_
      rintro e w3 ⟨rfl, hb3⟩
      have HL3 := hide ((unhide HL2).below hb3)
      have HB3 := hide ((unhide HB2).trans (hb3.mono (show N ≤ w2.heap.size by omega)))
      have HO3 := hide (owns_below (unhide HO2) hb3)
      clear hb3 y1
      go_wp2_with fail
      refine (add_m N R X ual und 5 _ (unhide HL3) (by omega)).mono ?_
      rintro e w4 ⟨rfl, hL4, hb4, hk4⟩
      have HL4 := hide hL4
      have HB4 := hide ((unhide HB3).trans hb4)
      have HO4 := hide (hk4.owns (unhide HO3))
      clear hL4 hb4 hk4
      go_wp2_with fail
      go_roundw
      case rel => exact ⟨j + 1, by omega, by go_num, hide (by rw [unhide HRes]; exact unhide HL4), HB4, HO4⟩
      case measure => simp [intOf]; omega
    · have ej : j = A.length := by omega
      subst ej
      have hL := unhide HL
      rw [List.take_length] at hL
      have HL2 := hide hL
      clear hL
      go_wp2_with fail
      go_end0
      exact ⟨rfl, unhide HL2, unhide HB⟩

theorem wd_zero : wd 0 ++ wd 0 = q4 0 := rfl

set_option maxRecDepth 100000 in
set_option maxHeartbeats 4000000 in
theorem addServices_m (N R : Nat) (l : List RI) (up : List Ev) (a : Option Addr) (c : Nat) (w : World) (h : Ls w N R l) (hrow : RowAt w N a (evC up)) (hup : up.length ≤ 33554432) (hl : l.length ≤ 100663296) (hok : UpOk up) :
    Calls Tryz.prog 74 #[.pointer (some ⟨R, 0, none⟩), .slice a up.length c] w fun e w' => e = .returned (.tuple #[]) ∧ Ls w' N R (l ++ up.map srvR) ∧ Below N w w' := by
  have HLs := hide h
  have HRow := hide hrow
  have HOk := hide hok
  have HT := hide (map_take srvR up)
  clear h hrow hok
  go_enter Tryz.func74, Tryz.ntmps74
  go_wp2_with fail
  go_loopw [4] (fun i w' => ∃ (j : Nat), j ≤ up.length ∧ i = .int .i64 j ∧ Hid (Ls w' N R (l ++ (up.take j).map srvR)) ∧ Hid (Below N w w')) (fun i _ => up.length - (intOf i).toNat)
  case atStart => exact ⟨0, Nat.zero_le _, rfl, hide (by simpa using unhide HLs), hide (Below.refl _ _)⟩
  case round =>
    obtain ⟨j, hj, rfl, HL, HB⟩ := hrel
    obtain ⟨hNR, hRl⟩ := (unhide HL).lt
    by_cases cj : j < up.length
    · obtain ⟨b, o, rfl, hb, x0, x1, x2, x3, x4, x5, x6⟩ := row_e ((unhide HRow).below (unhide HB)) j cj
      obtain ⟨s1, s2, s3, s4, s5, s6⟩ := unhide HOk j cj
      have ht := unhide HT j cj
      have hll : (l ++ (up.take j).map srvR).length ≤ 134217727 := by rw [List.length_append, List.length_map, List.length_take]; omega
      have hRes : l ++ (up.take (j + 1)).map srvR = (l ++ (up.take j).map srvR) ++ [srvR up[j]] := by rw [ht, List.append_assoc]
      have HRes := hide hRes
      clear ht hRes
      generalize hX : l ++ (up.take j).map srvR = X at *
      clear hX
      generalize up[j] = k at *
      obtain ⟨kd, nd, ic, ad, pt, tx, al⟩ := k
      simp only at x0 x1 x2 x3 x4 x5 x6 s1 s2 s3 s4 s5 s6 HRes
      obtain ⟨pn, rfl⟩ := Int.eq_ofNat_of_zero_le s3
      have kw0 := fun (W : World) => word_at 0 0 W rfl (by omega)
      have kw1 := fun (W : World) => word_any pn W (by omega)
      have kb2 := fun (W : World) => below_m nd W (by omega)
      have hsv : srvR ⟨kd, nd, ic, ad, (pn : Int), tx, al⟩ = madeR serviceB 33 (wd 0 ++ wd 0 ++ wd pn ++ underP nd) := by
        unfold srvR
        simp only [Int.toNat_natCast]
        rw [wd_zero]
      rw [hsv] at HRes
      have hz0 := wd_size 0
      have hz1 := wd_size pn
      have hz2 : (underP nd).size = 1 + nd.size + 10 := by unfold underP; rw [ByteArray.size_append, ByteArray.size_append]; rfl
      generalize wd 0 = w0 at *
      generalize wd pn = wp at *
      generalize underP nd = und at *
      have KW0 := hide kw0
      have KW1 := hide kw1
      have KB2 := hide kb2
      have hbN : b < wr.heap.size := by omega
      clear kw0 kw1 kb2 hsv
      go_wp2_with fail
      refine (unhide KW0 _).mono ?_
      rintro e w1 ⟨rfl, hb1⟩
      have y1 := (hb1.cell (p := ⟨b, o + j * 7 + 1, none⟩) hbN).trans x1
      have y4 := (hb1.cell (p := ⟨b, o + j * 7 + 4, none⟩) hbN).trans x4
      have HL1 := hide ((unhide HL).below hb1)
      have HB1 := hide ((unhide HB).trans (hb1.mono (show N ≤ wr.heap.size by omega)))
      have hs1 : wr.heap.size ≤ w1.heap.size := hb1.size
      clear hb1 x0 x1 x2 x3 x4 x5 x6
      go_wp2_with fail
      refine (unhide KW1 _).mono ?_
      rintro e w2 ⟨rfl, hb2⟩
      have z1 := (hb2.cell (p := ⟨b, o + j * 7 + 1, none⟩) (show b < w1.heap.size by omega)).trans y1
      have HL2 := hide ((unhide HL1).below hb2)
      have HB2 := hide ((unhide HB1).trans (hb2.mono (show N ≤ w1.heap.size by omega)))
      have hs2 : wr.heap.size ≤ w2.heap.size := Nat.le_trans hs1 hb2.size
      clear hb2 y1 y4
      go_wp2_with fail
      refine (unhide KB2 _).mono ?_
      rintro e w3 ⟨rfl, hb3⟩
      have HL3 := hide ((unhide HL2).below hb3)
      have HB3 := hide ((unhide HB2).trans (hb3.mono (show N ≤ w2.heap.size by omega)))
      clear hb3 z1
      have e1 : (w0 ++ w0).size = 4 := by rw [ByteArray.size_append]; omega
      have e2 : (w0 ++ w0 ++ wp).size = 6 := by rw [ByteArray.size_append]; omega
      go_wp2_with fail
      refine (add_m N R X serviceB (w0 ++ w0 ++ wp ++ und) 33 _ (unhide HL3) (by omega)).mono ?_
      rintro e w4 ⟨rfl, hL4, hb4, _⟩
      have HL4 := hide hL4
      have HB4 := hide ((unhide HB3).trans hb4)
      clear hL4 hb4
      go_wp2_with fail
      go_roundw
      case rel => exact ⟨j + 1, by omega, by go_num, hide (by rw [unhide HRes]; exact unhide HL4), HB4⟩
      case measure => simp [intOf]; omega
    · have ej : j = up.length := by omega
      subst ej
      have hL := unhide HL
      rw [List.take_length] at hL
      have HL2 := hide hL
      clear hL
      go_wp2_with fail
      go_end0
      exact ⟨rfl, unhide HL2, unhide HB⟩

end Go.Proofs.YtdhobdmhnocbgaaGreat

namespace Go.Proofs.YtdhobdmhnocbgaaGreat
open Go.RowKit Zr

/-- A new list of records that comes out. -/
def RecsOut (w : World) (l : List RI) (e : Ending) (w' : World) : Prop :=
  ∃ (a : Option Addr) (c : Nat), e = .returned (.slice a l.length c) ∧ w'.ownsRow w.heap.size 42 5 (.slice a l.length c) l.length (rcI l) ∧ Below w.heap.size w w'

theorem up_mem {l : List Ev} {e : Ev} (h : e ∈ upM l) : goodE e ∧ e.kind = 1 := by
  rw [up_same] at h
  obtain ⟨i, _, hc, hk, rfl⟩ := ((upP_spec l).2 e).1 h
  exact ⟨hc.1, hk⟩

theorem up_ok (l : List Ev) : UpOk (upM l) := by
  intro i hi
  obtain ⟨hg, hk⟩ := up_mem (List.getElem_mem hi)
  obtain ⟨h1, _, _, h4⟩ := hg
  rcases h4 with h4 | ⟨_, h5, h6, h7, h8, h9⟩
  · rw [hk] at h4; exact absurd h4 (by decide)
  · refine ⟨h1.2.2, h6, h7, h8, h9, ?_⟩
    rcases h5 with h5 | h5
    · rw [h5]; exact Nat.zero_le _
    · exact h5.2.2
theorem up_rising (l : List Ev) : Rising (upM l) := by rw [up_same]; exact (upP_spec l).1

theorem alive_len (l : List Ev) : (aliveL l).length ≤ l.length := by unfold aliveL; exact List.length_filter_le _ _
theorem upM_eq (l : List Ev) : aliveL (cntP (sortP (nodeEs (goodL l)))) = upM l := rfl
theorem upM_len (l : List Ev) : (upM l).length ≤ l.length := by
  rw [← upM_eq]
  have h1 := alive_len (cntP (sortP (nodeEs (goodL l))))
  have h2 := cnt_len (sortP (nodeEs (goodL l)))
  rw [sort_length] at h2
  have h3 : (nodeEs (goodL l)).length = (goodL l).length := by unfold nodeEs; rw [List.length_map]
  have h4 := good_len l l.length
  rw [List.take_length] at h4
  omega

theorem inc_bounds (l : List Ev) : 0 ≤ incP (goodL l) ∧ incP (goodL l) ≤ 2147483647 := by
  rw [inc_same]
  have : ∀ n, 0 ≤ serTo l n ∧ serTo l n ≤ 2147483647 := by
    intro n
    induction n with
    | zero => exact ⟨Int.le_refl _, by unfold serTo; decide⟩
    | succ n ih =>
      unfold serTo
      split
      · next h => exact ⟨h.1.2.1, h.1.2.2.1⟩
      · exact ih
  exact this _

set_option maxRecDepth 100000 in
set_option maxHeartbeats 4000000 in
theorem records_m (l : List Ev) (a : Option Addr) (c N : Nat) (w : World) (hrow : RowAt w N a (evC l)) (hN : N ≤ w.heap.size) (hl : l.length ≤ 16777216) (hz : EvSized l) :
    Calls Tryz.prog 39 #[.slice a l.length c] w fun e w' => RecsOut w (recordsM l) e w' := by
  have k1 := goodNews_m l a c N w hrow hN (by omega) hz
  have K1 := hide k1
  have hgl := good_len l l.length
  rw [List.take_length] at hgl
  obtain ⟨hi0, hi1⟩ := inc_bounds l
  have hok := up_ok l
  have hri := up_rising l
  have hul := upM_len l
  have heq := upM_eq l
  have HOk := hide hok
  have HRi := hide hri
  have HEq := hide heq
  obtain ⟨res, hres⟩ : ∃ r, recordsM l = r := ⟨_, rfl⟩
  have HRes := hide hres
  clear k1 hrow hz hok hri heq hres
  go_enter Tryz.func39, Tryz.ntmps39
  go_wp2_with fail
  refine (unhide K1).mono ?_
  rintro e w1 ⟨a1, c1, rfl, o1, b1⟩
  have k2 := greatest_m (goodL l) a1 c1 w1.heap.size w1 (owns_rowAt o1) (by omega)
  have k3 := upNodes_m (goodL l) a1 c1 w1.heap.size w1 (owns_rowAt o1) (Nat.le_refl _) (by omega)
  rw [unhide HEq] at k3
  have K2 := hide k2
  have K3 := hide k3
  have HB1 := hide b1
  have hs1 : w.heap.size ≤ w1.heap.size := b1.size
  clear k2 k3 o1 b1
  go_wp2_with fail
  refine (unhide K2).mono ?_
  rintro e w2 ⟨rfl, rfl⟩
  go_wp2_with fail
  refine (unhide K3).mono ?_
  rintro e w3 ⟨a3, c3, rfl, o3, b3⟩
  have HRow := hide (owns_rowAt o3)
  have HB3 := hide ((unhide HB1).trans (b3.mono hs1))
  have hs3 : w.heap.size ≤ w3.heap.size := Nat.le_trans hs1 b3.size
  obtain ⟨sn, hsn⟩ := Int.eq_ofNat_of_zero_le hi0
  have hresm : recordsM l = [madeR originB 6 (soaB sn)] ++ [madeR originB 2 serverB] ++ (upM l).flatMap nodeR ++ (aliM (upM l) (sortP (aliEs (upM l))) (sortP (aliEs (upM l))).length).map cnR ++ (upM l).map srvR := by
    unfold recordsM
    rw [hsn, Int.toNat_natCast]
    rfl
  rw [hsn] at hi1 ⊢
  have hal : (aliM (upM l) (sortP (aliEs (upM l))) (sortP (aliEs (upM l))).length).length ≤ (upM l).length := by
    have h1 := aliM_len (upM l) (sortP (aliEs (upM l))) (sortP (aliEs (upM l))).length
    rw [sort_length] at h1
    have h2 := aliEs_len (upM l) (upM l).length
    rw [List.take_length] at h2
    rw [sort_length]
    omega
  have HResM := hide hresm
  clear o3 b3 K1 K2 K3 hsn hresm
  obtain ⟨N3, hN3⟩ : ∃ N3, w3.heap.size = N3 := ⟨_, rfl⟩
  rw [hN3] at HRow hs3
  go_wp2_with fail
  have hL4 : Ls (w3.alloc (.cells #[.slice none 0 0] 109)) N3 N3 [] := ⟨none, 0, by rw [← hN3]; exact heap_alloc_new _ _, Nat.le_refl _, World.ownsRow_nil _ _ _ _⟩
  have hb4 := (Below.refl N3 w3).alloc (by omega) (.cells #[.slice none 0 0] 109)
  have hs4 : N3 ≤ (w3.alloc (.cells #[.slice none 0 0] 109)).heap.size := by simp; omega
  have HL4 := hide hL4
  have HRow4 := hide ((unhide HRow).below hb4)
  have HB4 := hide ((unhide HB3).trans (hb4.mono hs3))
  clear hL4 hb4 HRow hN3
  generalize w3.alloc (.cells #[.slice none 0 0] 109) = w4 at *
  refine (soa_m sn _ (by omega)).mono ?_
  rintro e w5 ⟨rfl, hb5⟩
  have HL5 := hide ((unhide HL4).below hb5)
  have HRow5 := hide ((unhide HRow4).below (hb5.mono hs4))
  have HB5 := hide ((unhide HB4).trans (hb5.mono (Nat.le_trans hs3 hs4)))
  clear hb5 HL4 HRow4 HB4
  go_wp2_with fail
  refine (add_m N3 N3 [] originB (soaB sn) 6 _ (unhide HL5) (by simp)).mono ?_
  rintro e w6 ⟨rfl, hL6, hb6, _⟩
  have HL6 := hide hL6
  have HRow6 := hide ((unhide HRow5).below hb6)
  have HB6 := hide ((unhide HB5).trans (hb6.mono hs3))
  clear hb6 hL6 HL5 HRow5 HB5
  go_wp2_with fail
  refine (add_m N3 N3 _ originB serverB 2 _ (unhide HL6) (by simp)).mono ?_
  rintro e w7 ⟨rfl, hL7, hb7, _⟩
  have HL7 := hide hL7
  have HRow7 := hide ((unhide HRow6).below hb7)
  have HB7 := hide ((unhide HB6).trans (hb7.mono hs3))
  clear hb7 hL7 HL6 HRow6 HB6
  have hfl : ((upM l).flatMap nodeR).length ≤ 2 * (upM l).length := by have := nodeR_to (upM l) (upM l).length; rw [List.take_length] at this; exact this
  go_wp2_with fail
  refine (addHosts_m N3 N3 _ (upM l) a3 c3 _ (unhide HL7) (unhide HRow7) (by omega) (by simp) (unhide HOk)).mono ?_
  rintro e w8 ⟨rfl, hL8, hb8⟩
  have HL8 := hide hL8
  have HRow8 := hide ((unhide HRow7).below hb8)
  have HB8 := hide ((unhide HB7).trans (hb8.mono hs3))
  clear hb8 hL8 HL7 HRow7 HB7
  go_wp2_with fail
  refine (addAliases_m N3 N3 _ (upM l) a3 c3 _ (unhide HL8) (unhide HRow8) (by omega) (by rw [List.length_append]; show 2 + ((upM l).flatMap nodeR).length ≤ _; omega) (unhide HOk) (unhide HRi)).mono ?_
  rintro e w9 ⟨rfl, hL9, hb9⟩
  have HL9 := hide hL9
  have HRow9 := hide ((unhide HRow8).below hb9)
  have HB9 := hide ((unhide HB8).trans (hb9.mono hs3))
  clear hb9 hL9 HL8 HRow8 HB8
  go_wp2_with fail
  refine (addServices_m N3 N3 _ (upM l) a3 c3 _ (unhide HL9) (unhide HRow9) (by omega) (by rw [List.length_append, List.length_append, List.length_map]; show 2 + ((upM l).flatMap nodeR).length + _ ≤ _; omega) (unhide HOk)).mono ?_
  rintro e w10 ⟨rfl, hL10, hb10⟩
  have HB10 := hide ((unhide HB9).trans (hb10.mono hs3))
  have hfin : [] ++ [madeR originB 6 (soaB sn)] ++ [madeR originB 2 serverB] ++ (upM l).flatMap nodeR ++ (aliM (upM l) (sortP (aliEs (upM l))) (sortP (aliEs (upM l))).length).map cnR ++ (upM l).map srvR = recordsM l := (unhide HResM).symm
  rw [hfin] at hL10
  obtain ⟨a9, c9, hblk, _, hown⟩ := hL10
  obtain ⟨d0, _⟩ := ls_cells hblk
  have hw : RecsOut w (recordsM l) (.returned (.slice a9 (recordsM l).length c9)) w10 := ⟨a9, c9, rfl, owns_lower hs3 hown, unhide HB10⟩
  have HW := hide hw
  clear hw hblk hown hb10 HL9 HRow9 HB9 HResM hfin
  generalize (recordsM l).length = nn at *
  go_wp2_with fail
  go_ret
  exact unhide HW

end Go.Proofs.YtdhobdmhnocbgaaGreat
