/-
  Walks: Split: a stream, cut in any way, gives just the messages.
-/
/-
  What is handed in, opened: texts, numbers; what a bound on the bulk gives.
-/
import Derived.Test.YtdhobdmhnocbgaaDoorSStD
import Derived.Test.YtdhobdmhnocbgaaDoorRows
import Derived.ProofKit
import Derived.JoinedCond
import Derived.Deep.Strs
namespace Go.Proofs.YtdhobdmhnocbgaaDoor
open Go.RowKit Zr

/-- What has been given of a stream's front. -/
def Given (l : List ByteArray) (k g : Nat) : Prop := g ≤ l.length ∧ heldP (l.take g) ≤ k ∧ (∀ h : g < l.length, k < heldP (l.take g) + 2 + l[g].size) ∧ cutP ((frameP l).extract 0 k) 0 = (l.take g, k - heldP (l.take g))

/-- The cells of a list of numbers. -/
def CutsAt (w : World) (N : Nat) (a : Option Addr) (n : Nat) : Prop := 0 < n → ∃ b o, a = some ⟨b, o, none⟩ ∧ b < N ∧ ∀ i, i < n → ∃ v : Int, -9223372036854775808 ≤ v ∧ v < 9223372036854775808 ∧ w.cell? ⟨b, o + i, none⟩ = some (.int .i64 v)

theorem CutsAt.below {w w' : World} {N : Nat} {a : Option Addr} {n : Nat} (h : CutsAt w N a n) (hb : Below N w w') : CutsAt w' N a n := by
  intro hn
  obtain ⟨b, o, h1, h2, h3⟩ := h hn
  refine ⟨b, o, h1, h2, fun i hi => ?_⟩
  obtain ⟨v, h4, h5, h6⟩ := h3 i hi
  exact ⟨v, h4, h5, (hb.cell (p := ⟨b, o + i, none⟩) h2).trans h6⟩

end Go.Proofs.YtdhobdmhnocbgaaDoor

namespace Go.Proofs.YtdhobdmhnocbgaaDoor
open Go.ChangeShapes Go.WideShapes Go.ChangeAt Go.RowKit Go.Deep Zr

theorem Tryd.ownU : ownKnob Tryd.prog.godebug = none := by kernel_rfl
theorem Tryd.laidOutU : laidOutB Tryd.prog = true := by kernel_rfl

theorem addr_add (b o k : Nat) : (Addr.mk b o none).add k = ⟨b, o + k, none⟩ := by
  unfold Addr.add
  split
  · next h => subst h; rfl
  · rfl

theorem cell_in {w : World} {a : Addr} {v : Value} (h : w.cell? a = some v) : a.block < w.heap.size := by
  rcases Nat.lt_or_ge a.block w.heap.size with hb | hb
  · exact hb
  · simp [World.cell?, hb] at h

/-- The bulk of texts. -/
def bulkS : List ByteArray → Nat
  | [] => 0
  | x :: l => x.size + 1 + bulkS l

theorem bulkS_len : ∀ l, l.length ≤ bulkS l
  | [] => Nat.le_refl _
  | x :: l => by have := bulkS_len l; simp only [bulkS, List.length_cons]; omega
theorem bulkS_held : ∀ l, heldP l ≤ 2 * bulkS l
  | [] => Nat.le_refl _
  | x :: l => by have := bulkS_held l; simp only [bulkS, heldP]; omega

section
variable {H : Type}

theorem bulk_str (s : ByteArray) : Rows.uptoBulk (DataW.lit (H := H) (.string s.data.toList)) = s.size + 1 := by
  simp only [Rows.uptoBulk]
  rw [Array.length_toList]
  rfl

theorem bulk_strs : ∀ l : List ByteArray, Rows.uptoBulkAll (l.map fun s => DataW.lit (H := H) (.string s.data.toList)) = bulkS l
  | [] => by simp [Rows.uptoBulkAll, bulkS]
  | x :: l => by
    rw [List.map_cons]
    simp only [Rows.uptoBulkAll]
    rw [bulk_strs l, bulk_str]
    rfl

variable {enc : TypeId × Value → H} {W : World}

/-- A list of texts that is handed in. -/
theorem open_ss {fuel : Nat} {v : Value} {x : DataW H × List MemPlace} (h : DataW.trod enc Tryd.prog W 0 (fun _ => true) true fuel 22 [v] = some x) :
    ∃ (a : Option Addr) (l : List ByteArray) (c : Nat), v = .slice a l.length c ∧ l.length ≤ c ∧ RowAt W W.heap.size a (stC l) ∧ bulkS l ≤ Rows.uptoBulk x.1 := by
  rcases open_strs Tryd.underlying22 Tryd.underlying9 (by kernel_rfl) h with ⟨h0, _⟩ | ⟨a, len, cap, m, Sx, hc, _, hl, hm, hmm, rfl, hcell⟩
  · simp only [List.cons.injEq, and_true] at h0
    exact ⟨none, [], 0, h0, Nat.le_refl _, fun hx => absurd rfl hx, Nat.zero_le _⟩
  · simp only [List.cons.injEq, and_true] at hc
    simp only [if_true] at hmm
    subst hmm
    have hll : ((List.range len).map Sx).length = len := by simp
    refine ⟨some a, (List.range len).map Sx, m, by rw [hll]; exact hc, by rw [hll]; exact hl, ?_, ?_⟩
    · intro hne
      have hpos : 0 < len := by
        rcases Nat.eq_zero_or_pos len with h0 | h0
        · subst h0; exact absurd rfl hne
        · exact h0
      obtain ⟨b, o, spot⟩ := a
      have hspot : spot = none := by simpa [Addr.add] using World.cell?_spot (hcell 0 (by omega)).1
      subst hspot
      have e0 := (hcell 0 (by omega)).1
      rw [addr_add] at e0
      refine ⟨b, o, rfl, cell_in e0, fun j u hu => ?_⟩
      have hj : j < len := by
        have := (List.getElem?_eq_some_iff.1 hu).1
        rw [stC_len, hll] at this
        exact this
      have e := (hcell j (by omega)).1
      rw [addr_add] at e
      rw [stC_at (by rw [hll]; exact hj)] at hu
      rw [e, ← hu]
      simp
    · have e := bulk_strs (H := H) ((List.range len).map Sx)
      rw [List.map_map] at e
      simp only [Rows.uptoBulk]
      have e2 : (List.range len).map (fun i => DataW.lit (H := H) (.string (Sx i).data.toList)) = (List.range len).map ((fun s => DataW.lit (H := H) (.string s.data.toList)) ∘ Sx) := rfl
      rw [e2, e]
      omega

end
end Go.Proofs.YtdhobdmhnocbgaaDoor
