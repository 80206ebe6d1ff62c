/-
  Walks: the reader's plain methods (bytes, number).
-/
import Derived.Test.YtdhobdmhnocbgaaGreatSRuns
import Derived.Deep.QuietTactic
import Derived.BigQuiet
namespace Go.Proofs.YtdhobdmhnocbgaaGreat
open Go.RowKit Zr

/-- A reader in memory. -/
def rdr (b : ByteArray) (k e : Int) : Obj := .cells #[.string b, .int .i64 k, .int .i64 e] 114 (0, 0)

theorem rdr_cells {w : World} {R : Nat} {b : ByteArray} {k e : Int} (h : w.heap[R]? = some (rdr b k e)) :
    w.cell? ⟨R, 0, none⟩ = some (.string b) ∧ w.cell? ⟨R, 1, none⟩ = some (.int .i64 k) ∧ w.cell? ⟨R, 2, none⟩ = some (.int .i64 e) ∧
    w.frozen? ⟨R, 0, none⟩ = false ∧ w.frozen? ⟨R, 1, none⟩ = false ∧ w.frozen? ⟨R, 2, none⟩ = false := by
  unfold rdr at h
  refine ⟨?_, ?_, ?_, frozen_of_blk h _, frozen_of_blk h _, frozen_of_blk h _⟩ <;> (rw [cell_of_blk h]; rfl)

theorem rdr_set1 {w : World} {R : Nat} {b : ByteArray} {k e : Int} (h : w.heap[R]? = some (rdr b k e)) (j : Int) : (w.setCell ⟨R, 1, none⟩ (.int .i64 j)).heap[R]? = some (rdr b j e) := by
  exact blk_set h _ _
theorem rdr_set2 {w : World} {R : Nat} {b : ByteArray} {k e : Int} (h : w.heap[R]? = some (rdr b k e)) (j : Int) : (w.setCell ⟨R, 2, none⟩ (.int .i64 j)).heap[R]? = some (rdr b k j) := by
  exact blk_set h _ _
theorem grown_set (w : World) (R o : Nat) (v : Value) : w.grownBy (w.setCell ⟨R, o, none⟩ v) (some R) :=
  ⟨rfl, rfl, rfl, by simp [World.setCell], fun k _ hk => Below.heap_setCell _ _ _ _ (fun e => hk (by rw [e]))⟩
theorem grown_refl (w : World) (row : Option Nat) : w.grownBy w row := ⟨rfl, rfl, rfl, Nat.le_refl _, fun _ _ _ => rfl⟩
theorem grown_drewN (w : World) (n : Nat) (row : Option Nat) : w.grownBy (w.drewN n) row := ⟨rfl, rfl, rfl, Nat.le_refl _, fun _ _ _ => rfl⟩
theorem grown_trans {a b c : World} {row : Option Nat} (h : a.grownBy b row) (k : b.grownBy c row) : a.grownBy c row :=
  ⟨k.os.trans h.os, k.tape.trans h.tape, k.output.trans h.output, Nat.le_trans h.size k.size, fun i hi hr => (k.block i (Nat.lt_of_lt_of_le hi h.size) hr).trans (h.block i hi hr)⟩
theorem grown_below {a b : World} {row : Option Nat} (h : Below a.heap.size a b) : a.grownBy b row := ⟨h.os, h.tape, h.output, h.size, fun k hk _ => h.block k hk⟩

set_option maxHeartbeats 400000 in
theorem bytes_fail (R : Nat) (b : ByteArray) (k f n : Int) (w : World) (hR : w.heap[R]? = some (rdr b k f)) (hf : f ≠ 0) :
    Calls Tryz.prog 138 #[.pointer (some ⟨R, 0, none⟩), .int .i64 n] w fun e w' => e = .returned (.string ⟨#[]⟩) ∧ w' = w := by
  obtain ⟨c0, c1, c2, z0, z1, z2⟩ := rdr_cells hR
  clear hR
  have hf' : (f != 0) = true := by rw [bne_iff_ne]; exact hf
  go_enter Tryz.func138, Tryz.ntmps138
  go_wp2_with fail
  go_ret
  exact ⟨rfl, rfl⟩

set_option maxHeartbeats 400000 in
theorem bytes_ok (R : Nat) (b : ByteArray) (k n : Int) (w : World) (hb : b.size ≤ 65535) (hR : w.heap[R]? = some (rdr b k 0)) (h1 : 0 ≤ k) (h2 : 0 ≤ n) (h3 : k + n ≤ b.size) :
    Calls Tryz.prog 138 #[.pointer (some ⟨R, 0, none⟩), .int .i64 n] w fun e w' => e = .returned (.string (b.extract k.toNat (k.toNat + n.toNat))) ∧ w'.heap[R]? = some (rdr b (k + n) 0) ∧ w.grownBy w' (some R) := by
  obtain ⟨c0, c1, c2, z0, z1, z2⟩ := rdr_cells hR
  have HR : Hid (w.heap[R]? = some (rdr b k 0)) := hR
  clear hR
  have ht : (k + n).toNat = k.toNat + n.toNat := by omega
  go_enter Tryz.func138, Tryz.ntmps138
  go_wp2_with fail
  go_quiet ((go_at_call 157; exact Calls.quiet_of_same (has_yes _ _ _ _ (big hb) (by omega) (by omega) (by omega))))
  go_wp2_with fail
  go_ret
  exact ⟨rfl, rdr_set1 (k := k) HR.out _, grown_trans (grown_drewN _ _ _) (grown_set _ _ _ _)⟩

set_option maxHeartbeats 400000 in
theorem bytes_short (R : Nat) (b : ByteArray) (k n : Int) (w : World) (hb : b.size ≤ 65535) (hR : w.heap[R]? = some (rdr b k 0)) (h1 : 0 ≤ k) (h2 : 0 ≤ n) (h3 : (b.size : Int) < k + n) (h4 : k ≤ 4294967296) :
    Calls Tryz.prog 138 #[.pointer (some ⟨R, 0, none⟩), .int .i64 n] w fun e w' => e = .returned (.string ⟨#[]⟩) ∧ w'.heap[R]? = some (rdr b k 2) ∧ w.grownBy w' (some R) := by
  obtain ⟨c0, c1, c2, z0, z1, z2⟩ := rdr_cells hR
  have HR : Hid (w.heap[R]? = some (rdr b k 0)) := hR
  clear hR
  go_enter Tryz.func138, Tryz.ntmps138
  go_wp2_with fail
  go_quiet ((go_at_call 157; exact Calls.quiet_of_same (has_no _ _ _ _ (big hb) (by omega) (by omega) (by omega) (by omega))))
  go_wp2_with fail
  go_ret
  exact ⟨rfl, rdr_set2 HR.out _, grown_trans (grown_drewN _ _ _) (grown_set _ _ _ _)⟩

set_option maxHeartbeats 400000 in
theorem number_fail (R : Nat) (b : ByteArray) (k f n : Int) (w : World) (hR : w.heap[R]? = some (rdr b k f)) (hf : f ≠ 0) :
    Calls Tryz.prog 109 #[.pointer (some ⟨R, 0, none⟩), .int .i64 n] w fun e w' => e = .returned (.int .i64 0) ∧ w' = w := by
  go_enter Tryz.func109, Tryz.ntmps109
  go_wp2_with fail
  refine (bytes_fail R b k f n _ hR hf).mono ?_
  rintro e w' ⟨rfl, rfl⟩
  clear hR hf
  go_wp2_with fail
  refine wp_loop_rounds 1 ?_; rw [rounds_succ]
  go_wp2_with fail
  go_ret
  exact ⟨rfl, rfl⟩

set_option maxHeartbeats 400000 in
theorem number_short (R : Nat) (b : ByteArray) (k n : Int) (w : World) (hb : b.size ≤ 65535) (hR : w.heap[R]? = some (rdr b k 0)) (h1 : 0 ≤ k) (h2 : 0 ≤ n) (h3 : (b.size : Int) < k + n) (h4 : k ≤ 4294967296) :
    Calls Tryz.prog 109 #[.pointer (some ⟨R, 0, none⟩), .int .i64 n] w fun e w' => e = .returned (.int .i64 0) ∧ w'.heap[R]? = some (rdr b k 2) ∧ w.grownBy w' (some R) := by
  go_enter Tryz.func109, Tryz.ntmps109
  go_wp2_with fail
  refine (bytes_short R b k n _ hb hR h1 h2 h3 h4).mono ?_
  rintro e w' ⟨rfl, hR', hg⟩
  have HR := hR'
  clear hR hR'
  go_wp2_with fail
  refine wp_loop_rounds 1 ?_; rw [rounds_succ]
  go_wp2_with fail
  go_ret
  exact ⟨rfl, HR, hg⟩

set_option maxHeartbeats 400000 in
theorem number_ok (R : Nat) (b : ByteArray) (k n : Int) (w : World) (hb : b.size ≤ 65535) (hR : w.heap[R]? = some (rdr b k 0)) (h1 : 0 ≤ k) (h2 : 0 ≤ n) (h3 : k + n ≤ b.size) (h4 : n ≤ 4) :
    Calls Tryz.prog 109 #[.pointer (some ⟨R, 0, none⟩), .int .i64 n] w fun e w' => e = .returned (.int .i64 (num b k.toNat n.toNat)) ∧ w'.heap[R]? = some (rdr b (k + n) 0) ∧ w.grownBy w' (some R) := by
  go_enter Tryz.func109, Tryz.ntmps109
  go_wp2_with fail
  refine (bytes_ok R b k n _ hb hR h1 h2 h3).mono ?_
  rintro e w' ⟨rfl, hR', hg⟩
  have hp : (b.extract k.toNat (k.toNat + n.toNat)).size = n.toNat := by simp [ByteArray.size_extract]; omega
  have hn : ∀ j, j ≤ n.toNat → num (b.extract k.toNat (k.toNat + n.toNat)) 0 j = num b k.toNat j := num_extract b k.toNat n.toNat (by omega)
  have Hn := hide hn
  clear hn hR
  have HR := hide hR'
  clear hR'
  generalize b.extract k.toNat (k.toNat + n.toNat) = part at *
  have HP := hide hp
  have hp4 : part.size ≤ 4 := by omega
  clear hp
  go_wp2_with fail
  go_loop [6, 7] (fun v i => ∃ j : Nat, j ≤ part.size ∧ i = .int .i64 j ∧ v = .int .i64 (num part 0 j)) (fun _ i => part.size - (intOf i).toNat)
  case atStart => exact ⟨0, Nat.zero_le _, rfl, rfl⟩
  case round =>
    obtain ⟨j, hj, rfl, rfl⟩ := hrel
    have hl := num_lt4 part 0 j (by omega)
    by_cases c : j < part.size
    · have hb := bt_get part j c
      have hb2 := bt_lt part j
      go_wp2_with fail
      go_round
      case rel => exact ⟨j + 1, by omega, by go_num, by simp only [num]; rw [Nat.zero_add]; congr 1; omega⟩
      case measure => simp [intOf]; omega
    · have hj' : j = part.size := by omega
      have HJ := hide hj'
      clear hj'
      go_wp2_with fail
      go_ret
      exact ⟨by rw [unhide HJ, unhide HP, unhide Hn _ (Nat.le_refl _)]; rfl, unhide HR, hg⟩

end Go.Proofs.YtdhobdmhnocbgaaGreat
