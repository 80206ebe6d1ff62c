/-
  Walks over the document's own answer: what is being written (high, knownAt).
-/
import Derived.Test.YtdhobdmhnocbgaaSRwC
import Derived.Test.YtdhobdmhnocbgaaSSerW
import Derived.Test.YtdhobdmhnocbgaaSLawC
namespace Go.Proofs.Ytdhobdmhnocbgaa
open Go.RowKit Zr

/-- The last i bytes of a number, the high byte first. -/
def hiS (n : Nat) : Nat → ByteArray
  | 0 => ⟨#[]⟩
  | i + 1 => ⟨#[UInt8.ofNat (n / 256 ^ i % 256)]⟩ ++ hiS n i

theorem hiS_size (n : Nat) : ∀ i, (hiS n i).size = i := by
  intro i
  induction i with
  | zero => rfl
  | succ i ih => rw [hiS, ByteArray.size_append, ih]; show 1 + i = _; omega

theorem hiS_two (n : Nat) (h : n < 65536) : hiS n 2 = wd n := by
  apply ByteArray.ext
  simp only [hiS, wd, ByteArray.data_append]
  have e : n / 256 ^ 1 % 256 = n / 256 := by omega
  have e2 : n / 256 ^ 0 % 256 = n % 256 := by simp
  rw [e, e2]
  rfl

theorem hiS_four (n : Nat) (h : n < 4294967296) : hiS n 4 = wd (n / 65536) ++ wd (n % 65536) := by
  apply ByteArray.ext
  simp only [hiS, wd, ByteArray.data_append]
  have e1 : n / 256 ^ 3 % 256 = n / 65536 / 256 := by omega
  have e2 : n / 256 ^ 2 % 256 = n / 65536 % 256 := by omega
  have e3 : n / 256 ^ 1 % 256 = n % 65536 / 256 := by omega
  have e4 : n / 256 ^ 0 % 256 = n % 65536 % 256 := by omega
  rw [e1, e2, e3, e4]
  rfl

theorem byte_owns (w : World) (n : Nat) : (w.alloc (.cells #[.int .u8 ((n : Int) % 256)] 5)).ownsRow w.heap.size 5 1 (.slice (some ⟨w.heap.size, 0, none⟩) 1 1) (⟨#[UInt8.ofNat (n % 256)]⟩ : ByteArray).size (byteCells ⟨#[UInt8.ofNat (n % 256)]⟩) := by
  refine ⟨rfl, .inr ⟨w.heap.size, 1, _, rfl, Nat.le_refl _, heap_alloc_new _ _, Nat.le_refl _, by decide, rfl, ?_⟩⟩
  have e : byteCells ⟨#[UInt8.ofNat (n % 256)]⟩ = [.int .u8 (((UInt8.ofNat (n % 256)).toNat : Nat) : Int)] := rfl
  rw [e, UInt8.toNat_ofNat']
  show [_] = _
  congr 2
  omega

set_option maxRecDepth 100000 in
set_option maxHeartbeats 1000000 in
theorem high_any (n k : Nat) (w : World) (hn : n < 4294967296) (hk : k ≤ 4) :
    Calls Try.prog 45 #[.int .i64 n, .int .i64 k] w fun e w' => e = .returned (.string (hiS n k)) ∧ Below w.heap.size w w' := by
  go_enter Try.func45, Try.ntmps45
  go_wp2_with fail
  go_loopw [0, 5, 6] (fun a s i w' => ∃ (j m : Nat), j ≤ k ∧ a = .int .i64 m ∧ m < 4294967296 ∧ Hid (m = n / 256 ^ j) ∧ s = .string (hiS n j) ∧ i = .int .i64 j ∧ Hid (Below w.heap.size w w')) (fun _ _ i _ => k - (intOf i).toNat)
  case atStart => exact ⟨0, n, Nat.zero_le _, rfl, hn, by show _ = _; simp, rfl, rfl, Below.refl _ _⟩
  case round =>
    obtain ⟨j, m, hj, rfl, hm, hme, rfl, rfl, hB⟩ := hrel
    have hz := hiS_size n j
    by_cases cj : j < k
    · have hnx : hiS n (j + 1) = ⟨#[UInt8.ofNat (m % 256)]⟩ ++ hiS n j := by rw [hiS, ← unhide hme]
      have hmx : m / 256 = n / 256 ^ (j + 1) := by rw [unhide hme, Nat.pow_succ, Nat.div_div_eq_div_mul]
      have HNx := hide hnx
      have HMx := hide hmx
      have hone : (⟨#[UInt8.ofNat (m % 256)]⟩ : ByteArray).size = 1 := rfl
      clear hnx hmx
      generalize hiS n j = s at *
      go_wp2_with fail
      rw [run_bytes_row _ 105 9 5 Try.underlying105 Try.underlying5 Try.underlying9 wr.heap.size _ ⟨#[UInt8.ofNat (m % 256)]⟩ (byte_owns wr m)]
      go_wp2_with fail
      go_roundw
      case rel => exact ⟨j + 1, m / 256, by omega, by go_num, by omega, HMx, by rw [unhide HNx], by go_num, (unhide hB).trans (((Below.refl _ _).alloc (Nat.le_refl _) _).mono (unhide hB).size)⟩
      case measure => simp [intOf]; omega
    · have hjk : j = k := by omega
      subst hjk
      clear hz
      go_wp2_with fail
      go_ret
      exact ⟨rfl, unhide hB⟩

theorem high_at (v : Int) (k n : Nat) (s : ByteArray) (w : World) (hv : v = (n : Int)) (hn : n < 4294967296) (hk : k ≤ 4) (hs : hiS n k = s) :
    Calls Try.prog 45 #[.int .i64 v, .int .i64 k] w fun e w' => e = .returned (.string s) ∧ Below w.heap.size w w' := by
  subst hv
  subst hs
  exact high_any n k w hn hk

theorem high2 (v : Int) (n : Nat) (w : World) (hv : v = (n : Int)) (hn : n < 65536) :
    Calls Try.prog 45 #[.int .i64 v, .int .i64 2] w fun e w' => e = .returned (.string (wd n)) ∧ Below w.heap.size w w' :=
  high_at v 2 n (wd n) w hv (by omega) (by omega) (hiS_two n hn)

theorem high4 (v : Int) (n : Nat) (w : World) (hv : v = (n : Int)) (hn : n < 4294967296) :
    Calls Try.prog 45 #[.int .i64 v, .int .i64 4] w fun e w' => e = .returned (.string (wd (n / 65536) ++ wd (n % 65536))) ∧ Below w.heap.size w w' :=
  high_at v 4 n _ w hv hn (by omega) (hiS_four n hn)

/-- The cells of heads. -/
def hcells (K : List (ByteArray × Nat)) : List Value := K.map fun p => .int .i64 p.2

theorem hcells_len (K : List (ByteArray × Nat)) : (hcells K).length = K.length * 1 := by unfold hcells; rw [List.length_map, Nat.mul_one]
theorem hcells_append (K l : List (ByteArray × Nat)) : hcells (K ++ l) = hcells K ++ hcells l := by simp [hcells]
theorem hcells_at (l : List (ByteArray × Nat)) (i : Nat) (h : i < l.length) : (hcells l)[i]? = some (.int .i64 l[i].2) := by
  unfold hcells
  rw [List.getElem?_map, List.getElem?_eq_getElem h]
  rfl

/-- A text in block T: the bytes B; the heads of what is known. -/
def Tx (w : World) (N T : Nat) (B : ByteArray) (K : List (ByteArray × Nat)) : Prop :=
  ∃ ah ch, w.heap[T]? = some (.cells #[.string B, .slice ah K.length ch] 78 (0, 0)) ∧ N ≤ T ∧ w.ownsRow N 3 1 (.slice ah K.length ch) K.length (hcells K)

/-- Only blocks of the text's kinds, from N on, may have turned. -/
structure TFrame (N : Nat) (w w' : World) : Prop where
  os : w'.os = w.os
  tape : w'.tape = w.tape
  output : w'.output = w.output
  size : w.heap.size ≤ w'.heap.size
  low : ∀ k, k < N → k < w.heap.size → w'.heap[k]? = w.heap[k]?
  kind : ∀ (k : Nat) (cs : Array Value) (t : TypeId) (fr : Nat × Nat), w.heap[k]? = some (Obj.cells cs t fr) → t ≠ 3 → t ≠ 78 → w'.heap[k]? = some (Obj.cells cs t fr)

theorem TFrame.refl (N : Nat) (w : World) : TFrame N w w := ⟨rfl, rfl, rfl, Nat.le_refl _, fun _ _ _ => rfl, fun _ _ _ _ h _ _ => h⟩
theorem TFrame.trans {N : Nat} {a b c : World} (h : TFrame N a b) (k : TFrame N b c) : TFrame N a c :=
  ⟨k.os.trans h.os, k.tape.trans h.tape, k.output.trans h.output, Nat.le_trans h.size k.size, fun i h1 h2 => (k.low i h1 (Nat.lt_of_lt_of_le h2 h.size)).trans (h.low i h1 h2), fun i cs t fr h1 h2 h3 => k.kind i cs t fr (h.kind i cs t fr h1 h2 h3) h2 h3⟩
theorem TFrame.below {N : Nat} {w w' : World} (h : TFrame N w w') (hN : N ≤ w.heap.size) : Below N w w' := ⟨h.os, h.tape, h.output, h.size, fun k hk => h.low k hk (Nat.lt_of_lt_of_le hk hN)⟩
theorem TFrame.of_below {N : Nat} {w w' : World} (h : Below w.heap.size w w') : TFrame N w w' :=
  ⟨h.os, h.tape, h.output, h.size, fun k _ hk => h.block k hk, fun k _ _ _ hk _ _ => (h.block k (blk_lt hk)).trans hk⟩
theorem TFrame.of_grown {N g : Nat} {w w' : World} (h : w.grownBy w' (some g)) (hg : N ≤ g) {cs : Array Value} {t : TypeId} {fr : Nat × Nat} (hk : w.heap[g]? = some (.cells cs t fr)) (ht : t = 3 ∨ t = 78) : TFrame N w w' :=
  ⟨h.os, h.tape, h.output, h.size, fun k h1 h2 => h.block k h2 (fun e => by cases e; omega), fun k cs' t' fr' h1 h2 h3 => (h.block k (blk_lt h1) (fun e => by
    cases e
    rw [hk] at h1
    cases h1
    rcases ht with h | h
    · exact h2 h
    · exact h3 h)).trans h1⟩
theorem TFrame.of_none {N : Nat} {w w' : World} (h : w.grownBy w' none) : TFrame N w w' :=
  ⟨h.os, h.tape, h.output, h.size, fun k h1 h2 => h.block k h2 (by simp), fun k _ _ _ h1 _ _ => (h.block k (blk_lt h1) (by simp)).trans h1⟩
theorem TFrame.of_append {N : Nat} {w w' : World} {e : TypeId} {size : Nat} {v : Value} {n : Nat} {xs : List Value} (hown : w.ownsRow N e size v n xs) (hg : w.grownBy w' v.ownBlock) (ht : e = 3 ∨ e = 78) : TFrame N w w' := by
  rcases hown.2 with ⟨rfl, _⟩ | ⟨g, cap, cur, rfl, hbg, hgg, _⟩
  · exact TFrame.of_none hg
  · exact TFrame.of_grown hg hbg hgg ht
theorem TFrame.box {N k : Nat} {w a : World} {cs : Array Value} {t : TypeId} {fr : Nat × Nat} (h : TFrame N w a) (hr : w.heap[k]? = some (.cells cs t fr)) (h1 : t ≠ 3) (h2 : t ≠ 78) : a.heap[k]? = some (.cells cs t fr) :=
  h.kind k _ _ _ hr h1 h2

theorem tx_cells {w : World} {T : Nat} {vb vk : Value} (h : w.heap[T]? = some (.cells #[vb, vk] 78 (0, 0))) :
    w.cell? ⟨T, 0, none⟩ = some vb ∧ w.cell? ⟨T, 1, none⟩ = some vk ∧ w.frozen? ⟨T, 0, none⟩ = false ∧ w.frozen? ⟨T, 1, none⟩ = false := by
  refine ⟨?_, ?_, frozen_of_blk h _, frozen_of_blk h _⟩ <;> (rw [cell_of_blk h]; rfl)

theorem Tx.lt {w : World} {N T : Nat} {B : ByteArray} {K : List (ByteArray × Nat)} (h : Tx w N T B K) : T < w.heap.size := by
  obtain ⟨ah, ch, hR, _⟩ := h
  exact blk_lt hR

theorem Tx.below {w w' : World} {N T : Nat} {B : ByteArray} {K : List (ByteArray × Nat)} (h : Tx w N T B K) (hb : Below w.heap.size w w') : Tx w' N T B K := by
  obtain ⟨ah, ch, hR, hN, o1⟩ := h
  have hg : w.grownBy w' none := grown_below hb
  exact ⟨ah, ch, (hb.block T (blk_lt hR)).trans hR, hN, owns_below o1 hb⟩

set_option maxRecDepth 100000 in
set_option maxHeartbeats 1000000 in
theorem knownAt_any (N T : Nat) (B : ByteArray) (K : List (ByteArray × Nat)) (Q : Nat → Prop) (s : ByteArray) (w : World) (h : Tx w N T B K) (hK : K.length ≤ 400000) (hB : B.size ≤ 400000) (hI : Inv Q B K) :
    Calls Try.prog 88 #[.pointer (some ⟨T, 0, none⟩), .string s] w fun e w' => e = .returned (.int .i64 (foundI (findK K s))) ∧ Below w.heap.size w w' := by
  obtain ⟨ah, ch, hR, hN, o1⟩ := h
  obtain ⟨c0, c1, z0, z1⟩ := tx_cells hR
  have O2 := hide o1
  have HI := hide hI
  clear hR o1 hI
  obtain ⟨v, hv⟩ : ∃ v, foundI (findK K s) = v := ⟨_, rfl⟩
  rw [hv]
  have HV := hide hv
  clear hv
  go_enter Try.func88, Try.ntmps88
  go_wp2_with fail
  go_loopw [5] (fun i w' => ∃ j m : Nat, j ≤ K.length ∧ i = .int .i64 j ∧ w' = w.drewN m ∧ Hid (∀ k (hk : k < K.length), k < j → K[k].1 ≠ s)) (fun i _ => K.length - (intOf i).toNat)
  case atStart => exact ⟨0, 0, Nat.zero_le _, rfl, rfl, fun k _ hk => by omega⟩
  case round =>
    obtain ⟨j, m, hj, rfl, rfl, hno⟩ := hrel
    by_cases cj : j < K.length
    · obtain ⟨g, rfl, _, _, hcap⟩ := owns_form (unhide O2) (by omega)
      have x0 := owns_cell (unhide O2) _ _ (hcells_at K j cj)
      obtain ⟨t, ht⟩ := (unhide HI).read K[j].1 K[j].2 (List.getElem_mem cj)
      have hh := (unhide HI K[j].1 K[j].2 (List.getElem_mem cj)).1
      have HRd := hide ht
      have i1 : (0 : Int) ≤ (j : Int) := by omega
      have i2 : (j : Int) < (K.length : Int) := by omega
      clear ht
      by_cases ce : K[j].1 = s
      · have hV := unhide HV
        rw [findK_at K s j cj (fun k hk => unhide hno k (by omega) hk) ce] at hV
        have hV' : (K[j].2 : Int) = v := hV
        have he : (K[j].1.toList == s.toList) = true := by rw [bytes_eqb]; simp [ce]
        have HV2 := hide hV'
        clear hV hV' ce
        generalize K[j].1 = kn at *
        generalize K[j].2 = kh at *
        have Key : Hid (∀ w, Calls Try.prog 116 #[.string B, .int .i64 kh] w fun e w' => e = .returned (.tuple #[.string kn, .int .i64 t, .int .i64 0]) ∧ w' = w) := fun w => refName_ok B kh w kn t (by omega) (by omega) (by omega) (by rw [Int.toNat_natCast]; exact HRd)
        go_wp2_with fail
        go_quiet ((go_at_call 116; exact (unhide Key _).mono (fun _ _ h => ⟨h.1, _, h.2⟩)))
        go_wp2_with fail
        go_ret
        exact ⟨by rw [unhide HV2]; rfl, below_drewN' (Below.refl _ _) _⟩
      · have he : (K[j].1.toList == s.toList) = false := by rw [bytes_eqb]; simp [ce]
        have hno2 : Hid (∀ k (hk : k < K.length), k < j + 1 → K[k].1 ≠ s) := fun k hk hkj => by
          by_cases hkk : k = j
          · subst hkk; exact ce
          · exact unhide hno k hk (by omega)
        clear ce
        generalize K[j].1 = kn at *
        generalize K[j].2 = kh at *
        have Key : Hid (∀ w, Calls Try.prog 116 #[.string B, .int .i64 kh] w fun e w' => e = .returned (.tuple #[.string kn, .int .i64 t, .int .i64 0]) ∧ w' = w) := fun w => refName_ok B kh w kn t (by omega) (by omega) (by omega) (by rw [Int.toNat_natCast]; exact HRd)
        go_wp2_with fail
        go_quiet ((go_at_call 116; exact (unhide Key _).mono (fun _ _ h => ⟨h.1, _, h.2⟩)))
        go_wp2_with fail
        exact ⟨⟨j + 1, m + nq, by omega, by go_num, rfl, hno2⟩, by simp [intOf]; omega⟩
    · have hV := unhide HV
      rw [findK_none K s (fun k hk => unhide hno k hk (by omega))] at hV
      have HV2 : Hid ((-1 : Int) = v) := hV
      clear hV
      go_wp2_with fail
      go_ret
      exact ⟨by rw [← unhide HV2]; rfl, below_drewN' (Below.refl _ _) _⟩

end Go.Proofs.Ytdhobdmhnocbgaa
