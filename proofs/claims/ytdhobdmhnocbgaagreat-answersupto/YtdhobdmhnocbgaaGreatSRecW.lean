/-
  Walks: the reader's methods data, question, record.
-/
import Derived.Test.YtdhobdmhnocbgaaGreatSDataX
import Derived.Test.YtdhobdmhnocbgaaGreatSRecs
namespace Go.Proofs.YtdhobdmhnocbgaaGreat
open Go.RowKit Zr

/-- A reader that has failed. -/
def Failed (w : World) (R : Nat) (b : ByteArray) (x : Int) : Prop := x ≠ 0 ∧ ∃ k : Int, w.heap[R]? = some (rdr b k x)

theorem grown_blk {W w1 : World} {R k : Nat} {o : Obj} (hg : W.grownBy w1 (some R)) (h : W.heap[k]? = some o) (hne : k ≠ R) : w1.heap[k]? = some o :=
  (hg.block k (blk_lt h) (by simpa using hne)).trans h

theorem cells3 {w : World} {k : Nat} {x y z : Value} {t : TypeId} (h : w.heap[k]? = some (.cells #[x, y, z] t (0, 0))) :
    (w.cell? ⟨k, 0, none⟩ = some x ∧ w.cell? ⟨k, 1, none⟩ = some y ∧ w.cell? ⟨k, 2, none⟩ = some z) ∧ (w.frozen? ⟨k, 0, none⟩ = false ∧ w.frozen? ⟨k, 1, none⟩ = false ∧ w.frozen? ⟨k, 2, none⟩ = false) := by
  refine ⟨⟨?_, ?_, ?_⟩, frozen_of_blk h _, frozen_of_blk h _, frozen_of_blk h _⟩ <;> (rw [cell_of_blk h]; rfl)

theorem cells5 {w : World} {k : Nat} {x y z u v : Value} {t : TypeId} (h : w.heap[k]? = some (.cells #[x, y, z, u, v] t (0, 0))) :
    (w.cell? ⟨k, 0, none⟩ = some x ∧ w.cell? ⟨k, 1, none⟩ = some y ∧ w.cell? ⟨k, 2, none⟩ = some z ∧ w.cell? ⟨k, 3, none⟩ = some u ∧ w.cell? ⟨k, 4, none⟩ = some v) ∧
    (w.frozen? ⟨k, 0, none⟩ = false ∧ w.frozen? ⟨k, 1, none⟩ = false ∧ w.frozen? ⟨k, 2, none⟩ = false ∧ w.frozen? ⟨k, 3, none⟩ = false ∧ w.frozen? ⟨k, 4, none⟩ = false) := by
  refine ⟨⟨?_, ?_, ?_, ?_, ?_⟩, frozen_of_blk h _, frozen_of_blk h _, frozen_of_blk h _, frozen_of_blk h _, frozen_of_blk h _⟩ <;> (rw [cell_of_blk h]; rfl)

theorem grown_alloc2 (w : World) (A B : Obj) (row : Option Nat) : w.grownBy ((w.alloc A).alloc B) row :=
  grown_trans (World.grownBy_alloc w A row) (World.grownBy_alloc _ B row)

theorem two_new (w : World) (A B : Obj) : ((w.alloc A).alloc B).heap[w.heap.size]? = some A ∧ ((w.alloc A).alloc B).heap[w.heap.size + 1]? = some B := by
  refine ⟨?_, ?_⟩
  · rw [Below.heap_alloc _ _ _ (by simp)]; exact heap_alloc_new _ _
  · have := heap_alloc_new (w.alloc A) B
    simpa using this

set_option maxHeartbeats 1000000 in
theorem data_fail (R : Nat) (b : ByteArray) (k f t : Int) (w : World) (hR : w.heap[R]? = some (rdr b k f)) (hf : f ≠ 0) :
    Calls Tryz.prog 159 #[.pointer (some ⟨R, 0, none⟩), .int .i64 t] w fun e w' => e = .returned (.string ⟨#[]⟩) ∧ w' = w := by
  have HR := hide hR
  obtain ⟨c0, c1, c2, z0, z1, z2⟩ := rdr_cells hR
  clear hR
  have hf' : (f != 0) = true := by rw [bne_iff_ne]; exact hf
  go_enter Tryz.func159, Tryz.ntmps159
  go_wp2_with fail
  refine (number_fail R b k f 2 _ (unhide HR) hf).mono ?_
  rintro e w' ⟨rfl, rfl⟩
  go_wp2_with fail
  refine (bytes_fail R b k f 0 _ (unhide HR) hf).mono ?_
  rintro e w' ⟨rfl, rfl⟩
  go_wp2_with fail
  go_ret
  exact ⟨rfl, rfl⟩

set_option maxHeartbeats 1000000 in
theorem data_short (R : Nat) (b : ByteArray) (p : Nat) (t : Int) (w : World) (hb : b.size ≤ 65535) (hR : w.heap[R]? = some (rdr b p 0)) (hp : p ≤ b.size) (hs : b.size < p + 2 ∨ b.size < p + 2 + num b p 2) :
    Calls Tryz.prog 159 #[.pointer (some ⟨R, 0, none⟩), .int .i64 t] w fun e w' => e = .returned (.string ⟨#[]⟩) ∧ Failed w' R b 2 ∧ w.grownBy w' (some R) := by
  by_cases c : b.size < p + 2
  · clear hs
    go_enter Tryz.func159, Tryz.ntmps159
    go_wp2_with fail
    refine (number_short R b p 2 _ hb hR (by omega) (by omega) (by omega) (by omega)).mono ?_
    rintro e w1 ⟨rfl, hR1, hg1⟩
    obtain ⟨c0, c1, c2, z0, z1, z2⟩ := rdr_cells hR1
    have HR1 := hide hR1
    clear hR hR1
    go_wp2_with fail
    refine (bytes_fail R b p 2 0 _ (unhide HR1) (by decide)).mono ?_
    rintro e w' ⟨rfl, rfl⟩
    go_wp2_with fail
    go_ret
    exact ⟨rfl, ⟨by decide, p, unhide HR1⟩, hg1⟩
  · have hs' : b.size < p + 2 + num b p 2 := by omega
    have hl := num_lt2 b p
    clear hs
    go_enter Tryz.func159, Tryz.ntmps159
    go_wp2_with fail
    refine (number_ok R b p 2 _ hb hR (by omega) (by omega) (by omega) (by omega)).mono ?_
    rw [Int.toNat_natCast]
    rintro e w1 ⟨rfl, hR1, hg1⟩
    obtain ⟨c0, c1, c2, z0, z1, z2⟩ := rdr_cells hR1
    have HR1 := hide hR1
    clear hR hR1
    have e2 : (2 : Int).toNat = 2 := rfl
    rw [e2]
    go_wp2_with fail
    refine (bytes_short R b (p + 2) (num b p 2) _ hb (unhide HR1) (by omega) (by omega) (by omega) (by omega)).mono ?_
    rintro e w2 ⟨rfl, hR2, hg2⟩
    have HR2 := hide hR2
    clear c0 c1 c2 z0 z1 z2
    obtain ⟨c0, c1, c2, z0, z1, z2⟩ := rdr_cells hR2
    clear hR2
    go_wp2_with fail
    go_ret
    exact ⟨rfl, ⟨by decide, _, unhide HR2⟩, grown_trans hg1 hg2⟩

set_option maxHeartbeats 1000000 in
theorem data_read (R : Nat) (b : ByteArray) (p t : Nat) (w : World) (hb : b.size ≤ 65535) (hR : w.heap[R]? = some (rdr b p 0)) (hs : p + 2 + num b p 2 ≤ b.size) (res : Option ByteArray) (hd : Hid (dataP b (p + 2) (num b p 2) t = res)) :
    Calls Tryz.prog 159 #[.pointer (some ⟨R, 0, none⟩), .int .i64 t] w fun e w' => e = .returned (.string (res.getD ⟨#[]⟩)) ∧ (match res with
      | none => Failed w' R b 4
      | some _ => w'.heap[R]? = some (rdr b (p + 2 + num b p 2 : Nat) 0)) ∧ w.grownBy w' (some R) := by
  have hl := num_lt2 b p
  go_enter Tryz.func159, Tryz.ntmps159
  go_wp2_with fail
  refine (number_ok R b p 2 _ hb hR (by omega) (by omega) (by omega) (by omega)).mono ?_
  rw [Int.toNat_natCast]
  rintro e w1 ⟨rfl, hR1, hg1⟩
  obtain ⟨c0, c1, c2, z0, z1, z2⟩ := rdr_cells hR1
  have HR1 := hide hR1
  clear hR hR1
  have e2 : (2 : Int).toNat = 2 := rfl
  rw [e2]
  go_wp2_with fail
  refine (bytes_ok R b (p + 2) (num b p 2) _ hb (unhide HR1) (by omega) (by omega) (by omega)).mono ?_
  have e3 : ((p : Int) + 2).toNat = p + 2 := by omega
  rw [e3, Int.toNat_natCast]
  rintro e w2 ⟨rfl, hR2, hg2⟩
  clear e2 e3
  have HR2 := hide hR2
  clear c0 c1 c2 z0 z1 z2
  obtain ⟨c0, c1, c2, z0, z1, z2⟩ := rdr_cells hR2
  clear hR2
  generalize hraw : b.extract (p + 2) (p + 2 + num b p 2) = raw
  have Hraw := hide hraw.symm
  clear hraw
  go_wp2_with fail
  have hw := wholeData_any b raw (p + 2) (num b p 2) t w2 hb Hraw (by omega)
  rw [unhide hd, show (((p + 2 : Nat) : Int)) = (p : Int) + 2 from by omega] at hw
  refine hw.mono ?_
  clear hw
  rintro e w3 ⟨rfl, hb3⟩
  have hRl := blk_lt (unhide HR2)
  have hR3 := (hb3.block R hRl).trans (unhide HR2)
  have HR3 := hide hR3
  clear c0 c1 c2 z0 z1 z2
  obtain ⟨c0, c1, c2, z0, z1, z2⟩ := rdr_cells hR3
  have hg3 := grown_trans (grown_trans hg1 hg2) (grown_below (row := some R) hb3)
  clear hR3
  cases res with
  | none =>
    simp only [Option.getD_none, Option.isSome_none]
    go_wp2_with fail
    go_ret
    exact ⟨rfl, ⟨by decide, _, rdr_set2 (unhide HR3) 4⟩, grown_trans hg3 (grown_set _ _ _ _)⟩
  | some d =>
    simp only [Option.getD_some, Option.isSome_some]
    go_wp2_with fail
    go_ret
    refine ⟨rfl, ?_, hg3⟩
    have := unhide HR3
    rw [this]

end Go.Proofs.YtdhobdmhnocbgaaGreat
