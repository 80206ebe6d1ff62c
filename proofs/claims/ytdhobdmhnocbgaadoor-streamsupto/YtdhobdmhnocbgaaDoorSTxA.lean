/-
  Walks over the document's own answer: what is being written (high, knownAt).
-/
import Derived.Test.YtdhobdmhnocbgaaDoorSSerW
import Derived.Test.YtdhobdmhnocbgaaDoorSLawC
namespace Go.Proofs.YtdhobdmhnocbgaaDoor
open Go.RowKit Zr

/-- The last i bytes of a number, the high byte first. -/
def hiS (n : Nat) : Nat → ByteArray
  | 0 => ⟨#[]⟩
  | i + 1 => ⟨#[UInt8.ofNat (n / 256 ^ i % 256)]⟩ ++ hiS n i

theorem hiS_size (n : Nat) : ∀ i, (hiS n i).size = i := by
  intro i
  induction i with
  | zero => rfl
  | succ i ih => rw [hiS, ByteArray.size_append, ih]; show 1 + i = _; omega

theorem hiS_two (n : Nat) (h : n < 65536) : hiS n 2 = wd n := by
  apply ByteArray.ext
  simp only [hiS, wd, ByteArray.data_append]
  have e : n / 256 ^ 1 % 256 = n / 256 := by omega
  have e2 : n / 256 ^ 0 % 256 = n % 256 := by simp
  rw [e, e2]
  rfl

theorem byte_owns (w : World) (n : Nat) : (w.alloc (.cells #[.int .u8 ((n : Int) % 256)] 5)).ownsRow w.heap.size 5 1 (.slice (some ⟨w.heap.size, 0, none⟩) 1 1) (⟨#[UInt8.ofNat (n % 256)]⟩ : ByteArray).size (byteCells ⟨#[UInt8.ofNat (n % 256)]⟩) := by
  refine ⟨rfl, .inr ⟨w.heap.size, 1, _, rfl, Nat.le_refl _, heap_alloc_new _ _, Nat.le_refl _, by decide, rfl, ?_⟩⟩
  have e : byteCells ⟨#[UInt8.ofNat (n % 256)]⟩ = [.int .u8 (((UInt8.ofNat (n % 256)).toNat : Nat) : Int)] := rfl
  rw [e, UInt8.toNat_ofNat']
  show [_] = _
  congr 2
  omega

set_option maxRecDepth 100000 in
set_option maxHeartbeats 1000000 in
theorem high_any (n k : Nat) (w : World) (hn : n < 4294967296) (hk : k ≤ 4) :
    Calls Tryd.prog 21 #[.int .i64 n, .int .i64 k] w fun e w' => e = .returned (.string (hiS n k)) ∧ Below w.heap.size w w' := by
  go_enter Tryd.func21, Tryd.ntmps21
  go_wp2_with fail
  go_loopw [0, 5, 6] (fun a s i w' => ∃ (j m : Nat), j ≤ k ∧ a = .int .i64 m ∧ m < 4294967296 ∧ Hid (m = n / 256 ^ j) ∧ s = .string (hiS n j) ∧ i = .int .i64 j ∧ Hid (Below w.heap.size w w')) (fun _ _ i _ => k - (intOf i).toNat)
  case atStart => exact ⟨0, n, Nat.zero_le _, rfl, hn, by show _ = _; simp, rfl, rfl, Below.refl _ _⟩
  case round =>
    obtain ⟨j, m, hj, rfl, hm, hme, rfl, rfl, hB⟩ := hrel
    have hz := hiS_size n j
    by_cases cj : j < k
    · have hnx : hiS n (j + 1) = ⟨#[UInt8.ofNat (m % 256)]⟩ ++ hiS n j := by rw [hiS, ← unhide hme]
      have hmx : m / 256 = n / 256 ^ (j + 1) := by rw [unhide hme, Nat.pow_succ, Nat.div_div_eq_div_mul]
      have HNx := hide hnx
      have HMx := hide hmx
      have hone : (⟨#[UInt8.ofNat (m % 256)]⟩ : ByteArray).size = 1 := rfl
      clear hnx hmx
      generalize hiS n j = s at *
      go_wp2_with fail
      rw [run_bytes_row _ 59 9 5 Tryd.underlying59 Tryd.underlying5 Tryd.underlying9 wr.heap.size _ ⟨#[UInt8.ofNat (m % 256)]⟩ (byte_owns wr m)]
      go_wp2_with fail
      go_roundw
      case rel => exact ⟨j + 1, m / 256, by omega, by go_num, by omega, HMx, by rw [unhide HNx], by go_num, (unhide hB).trans (((Below.refl _ _).alloc (Nat.le_refl _) _).mono (unhide hB).size)⟩
      case measure => simp [intOf]; omega
    · have hjk : j = k := by omega
      subst hjk
      clear hz
      go_wp2_with fail
      go_ret
      exact ⟨rfl, unhide hB⟩

theorem high_at (v : Int) (k n : Nat) (s : ByteArray) (w : World) (hv : v = (n : Int)) (hn : n < 4294967296) (hk : k ≤ 4) (hs : hiS n k = s) :
    Calls Tryd.prog 21 #[.int .i64 v, .int .i64 k] w fun e w' => e = .returned (.string s) ∧ Below w.heap.size w w' := by
  subst hv
  subst hs
  exact high_any n k w hn hk

theorem high2 (v : Int) (n : Nat) (w : World) (hv : v = (n : Int)) (hn : n < 65536) :
    Calls Tryd.prog 21 #[.int .i64 v, .int .i64 2] w fun e w' => e = .returned (.string (wd n)) ∧ Below w.heap.size w w' :=
  high_at v 2 n (wd n) w hv (by omega) (by omega) (hiS_two n hn)

/-- The cells of heads. -/
def hcells (K : List (ByteArray × Nat)) : List Value := K.map fun p => .int .i64 p.2

end Go.Proofs.YtdhobdmhnocbgaaDoor
