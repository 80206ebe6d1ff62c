/-
  Walks: numbers as bytes (Word, Long).
-/
import Derived.Test.YtdhobdmhnocbgaaGreatSOnrow
import Derived.Test.YtdhobdmhnocbgaaGreatSMsgs
namespace Go.Proofs.YtdhobdmhnocbgaaGreat
open Go.RowKit Zr

theorem wd_owns (w : World) (n : Nat) (h : n < 65536) : (w.alloc (.cells #[.int .u8 ((n : Int) / 256), .int .u8 ((n : Int) % 256)] 5)).ownsRow w.heap.size 5 1 (.slice (some ⟨w.heap.size, 0, none⟩) 2 2) (wd n).size (byteCells (wd n)) := by
  refine ⟨rfl, .inr ⟨w.heap.size, 2, _, rfl, Nat.le_refl _, heap_alloc_new _ _, Nat.le_refl _, by decide, rfl, ?_⟩⟩
  have e : byteCells (wd n) = [.int .u8 (((UInt8.ofNat (n / 256)).toNat : Nat) : Int), .int .u8 (((UInt8.ofNat (n % 256)).toNat : Nat) : Int)] := rfl
  rw [e, UInt8.toNat_ofNat', UInt8.toNat_ofNat']
  show [_, _] = _
  congr 2
  · omega
  · congr 1; omega

set_option maxRecDepth 100000 in
set_option maxHeartbeats 400000 in
theorem word_any (n : Nat) (w : World) (h : n < 65536) :
    Calls Tryz.prog 108 #[.int .i64 n] w fun e w' => e = .returned (.string (wd n)) ∧ Below w.heap.size w w' := by
  go_enter Tryz.func108, Tryz.ntmps108
  go_wp2_with fail
  rw [run_bytes_row _ 96 9 5 Tryz.underlying96 Tryz.underlying5 Tryz.underlying9 w.heap.size _ (wd n) (wd_owns w n h)]
  go_wp2_with fail
  go_ret
  exact ⟨rfl, (Below.refl _ _).alloc (Nat.le_refl _) _⟩

theorem word_at (v : Int) (n : Nat) (w : World) (hv : v = (n : Int)) (h : n < 65536) :
    Calls Tryz.prog 108 #[.int .i64 v] w fun e w' => e = .returned (.string (wd n)) ∧ Below w.heap.size w w' := by
  subst hv
  exact word_any n w h

set_option maxRecDepth 100000 in
set_option maxHeartbeats 400000 in
theorem long_any (n : Nat) (w : World) (h : n < 4294967296) :
    Calls Tryz.prog 104 #[.int .i64 n] w fun e w' => e = .returned (.string (q4 n)) ∧ Below w.heap.size w w' := by
  obtain ⟨r, hr⟩ : ∃ r, q4 n = r := ⟨_, rfl⟩
  rw [hr]
  have HR := hide hr
  clear hr
  go_enter Tryz.func104, Tryz.ntmps104
  go_wp2_with fail
  refine (word_at _ (n / 65536) _ (by omega) (by omega)).mono ?_
  rintro e w1 ⟨rfl, hb1⟩
  obtain ⟨a, ha⟩ : ∃ a, wd (n / 65536) = a := ⟨_, rfl⟩
  have za := wd_size (n / 65536)
  rw [ha] at za ⊢
  have HA := hide ha
  clear ha
  go_wp2_with fail
  refine (word_at _ (n % 65536) _ (by omega) (by omega)).mono ?_
  rintro e w2 ⟨rfl, hb2⟩
  obtain ⟨b, hb⟩ : ∃ b, wd (n % 65536) = b := ⟨_, rfl⟩
  have zb := wd_size (n % 65536)
  rw [hb] at zb ⊢
  have HB := hide hb
  clear hb
  have hz : a.size + b.size ≤ 4 := by omega
  clear za zb
  go_wp2_with fail
  go_ret
  refine ⟨ret_string ?_, hb1.trans (hb2.mono hb1.size)⟩
  rw [← unhide HR, ← unhide HA, ← unhide HB]
  rfl

theorem long_at (v : Int) (n : Nat) (w : World) (hv : v = (n : Int)) (h : n < 4294967296) :
    Calls Tryz.prog 104 #[.int .i64 v] w fun e w' => e = .returned (.string (q4 n)) ∧ Below w.heap.size w w' := by
  subst hv
  exact long_any n w h

end Go.Proofs.YtdhobdmhnocbgaaGreat
