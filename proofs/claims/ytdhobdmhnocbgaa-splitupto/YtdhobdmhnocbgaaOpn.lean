/-
  What is handed in, opened: texts, numbers; what a bound on the bulk gives.
-/
import Derived.Test.YtdhobdmhnocbgaaRows
import Derived.Test.YtdhobdmhnocbgaaStE
import Derived.ProofKit
import Derived.JoinedCond
import Derived.Deep.Strs
namespace Go.Proofs.Ytdhobdmhnocbgaa
open Go.ChangeShapes Go.WideShapes Go.ChangeAt Go.RowKit Go.Deep Zr

theorem Try.ownU : ownKnob Try.prog.godebug = none := by kernel_rfl
theorem Try.laidOutU : laidOutB Try.prog = true := by kernel_rfl

theorem addr_add (b o k : Nat) : (Addr.mk b o none).add k = ⟨b, o + k, none⟩ := by
  unfold Addr.add
  split
  · next h => subst h; rfl
  · rfl

theorem cell_in {w : World} {a : Addr} {v : Value} (h : w.cell? a = some v) : a.block < w.heap.size := by
  rcases Nat.lt_or_ge a.block w.heap.size with hb | hb
  · exact hb
  · simp [World.cell?, hb] at h

/-- The bulk of texts. -/
def bulkS : List ByteArray → Nat
  | [] => 0
  | x :: l => x.size + 1 + bulkS l

theorem bulkS_len : ∀ l, l.length ≤ bulkS l
  | [] => Nat.le_refl _
  | x :: l => by have := bulkS_len l; simp only [bulkS, List.length_cons]; omega
theorem bulkS_held : ∀ l, heldP l ≤ 2 * bulkS l
  | [] => Nat.le_refl _
  | x :: l => by have := bulkS_held l; simp only [bulkS, heldP]; omega

section
variable {H : Type}

theorem bulk_str (s : ByteArray) : Rows.uptoBulk (DataW.lit (H := H) (.string s.data.toList)) = s.size + 1 := by
  simp only [Rows.uptoBulk]
  rw [Array.length_toList]
  rfl

theorem bulk_strs : ∀ l : List ByteArray, Rows.uptoBulkAll (l.map fun s => DataW.lit (H := H) (.string s.data.toList)) = bulkS l
  | [] => by simp [Rows.uptoBulkAll, bulkS]
  | x :: l => by
    rw [List.map_cons]
    simp only [Rows.uptoBulkAll]
    rw [bulk_strs l, bulk_str]
    rfl

theorem bulk_len : ∀ l : List (DataW H), l.length ≤ Rows.uptoBulkAll l
  | [] => by simp
  | d :: l => by
    have := bulk_len l
    simp only [Rows.uptoBulkAll, List.length_cons]
    have h : 1 ≤ Rows.uptoBulk d := by
      cases d with
      | lit x => cases x <;> simp [Rows.uptoBulk]
      | _ => simp [Rows.uptoBulk]
    omega

variable {enc : TypeId × Value → H} {W : World}

/-- A list of texts that is handed in. -/
theorem open_ss {fuel : Nat} {v : Value} {x : DataW H × List MemPlace} (h : DataW.trod enc Try.prog W 0 (fun _ => true) true fuel 42 [v] = some x) :
    ∃ (a : Option Addr) (l : List ByteArray) (c : Nat), v = .slice a l.length c ∧ l.length ≤ c ∧ RowAt W W.heap.size a (stC l) ∧ bulkS l ≤ Rows.uptoBulk x.1 := by
  rcases open_strs Try.underlying42 Try.underlying9 (by kernel_rfl) h with ⟨h0, _⟩ | ⟨a, len, cap, m, Sx, hc, _, hl, hm, hmm, rfl, hcell⟩
  · simp only [List.cons.injEq, and_true] at h0
    exact ⟨none, [], 0, h0, Nat.le_refl _, fun hx => absurd rfl hx, Nat.zero_le _⟩
  · simp only [List.cons.injEq, and_true] at hc
    simp only [if_true] at hmm
    subst hmm
    have hll : ((List.range len).map Sx).length = len := by simp
    refine ⟨some a, (List.range len).map Sx, m, by rw [hll]; exact hc, by rw [hll]; exact hl, ?_, ?_⟩
    · intro hne
      have hpos : 0 < len := by
        rcases Nat.eq_zero_or_pos len with h0 | h0
        · subst h0; exact absurd rfl hne
        · exact h0
      obtain ⟨b, o, spot⟩ := a
      have hspot : spot = none := by simpa [Addr.add] using World.cell?_spot (hcell 0 (by omega)).1
      subst hspot
      have e0 := (hcell 0 (by omega)).1
      rw [addr_add] at e0
      refine ⟨b, o, rfl, cell_in e0, fun j u hu => ?_⟩
      have hj : j < len := by
        have := (List.getElem?_eq_some_iff.1 hu).1
        rw [stC_len, hll] at this
        exact this
      have e := (hcell j (by omega)).1
      rw [addr_add] at e
      rw [stC_at (by rw [hll]; exact hj)] at hu
      rw [e, ← hu]
      simp
    · have e := bulk_strs (H := H) ((List.range len).map Sx)
      rw [List.map_map] at e
      simp only [Rows.uptoBulk]
      have e2 : (List.range len).map (fun i => DataW.lit (H := H) (.string (Sx i).data.toList)) = (List.range len).map ((fun s => DataW.lit (H := H) (.string s.data.toList)) ∘ Sx) := rfl
      rw [e2, e]
      omega

/-- A list of numbers that is handed in. -/
theorem open_is {fuel : Nat} {v : Value} {x : DataW H × List MemPlace} (h : DataW.trod enc Try.prog W 0 (fun _ => true) true fuel 35 [v] = some x) :
    ∃ (a : Option Addr) (n c : Nat), v = .slice a n c ∧ CutsAt W W.heap.size a n ∧ n ≤ Rows.uptoBulk x.1 := by
  rcases open_ints Try.underlying35 Try.underlying3 (by kernel_rfl) h with ⟨h0, _⟩ | ⟨ad, len, cap, zs, h0, _, hl, hm, hz, hx, hcell, hwf⟩
  · simp only [List.cons.injEq, and_true] at h0
    exact ⟨none, 0, 0, h0, fun hn => by omega, Nat.zero_le _⟩
  · simp only [List.cons.injEq, and_true] at h0
    simp only [if_true] at hz
    refine ⟨some ad, len, cap, h0, fun hn => ?_, ?_⟩
    · obtain ⟨b, o, spot⟩ := ad
      have hs : spot = none := by simpa [Addr.add] using World.cell?_spot (hcell 0 (by omega))
      subst hs
      have e0 := hcell 0 (by omega)
      rw [addr_add] at e0
      refine ⟨b, o, rfl, cell_in e0, fun i hi => ?_⟩
      have e := hcell i (by omega)
      rw [addr_add] at e
      have hmem : zs.getD i 0 ∈ zs := by
        rw [List.getD_eq_getElem?_getD, List.getElem?_eq_getElem (by omega)]
        exact List.getElem_mem _
      have h1 := hwf _ hmem
      unfold Lit.wf at h1
      rw [Bool.and_eq_true] at h1
      exact ⟨zs.getD i 0, of_decide_eq_true h1.1, by have h2 : zs.getD i 0 ≤ 9223372036854775807 := of_decide_eq_true h1.2; omega, e⟩
    · rw [hx]
      simp only [Rows.uptoBulk]
      have h1 := bulk_len (lits (H := H) .i64 (zs.take len))
      have h2 : (lits (H := H) .i64 (zs.take len)).length = len := by simp [lits]; omega
      omega

end
end Go.Proofs.Ytdhobdmhnocbgaa
