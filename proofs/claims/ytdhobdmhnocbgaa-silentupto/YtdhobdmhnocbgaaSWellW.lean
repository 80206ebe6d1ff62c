/-
  Walks: which messages are well made (isWord, isName, isData, isRecord).
-/
import Derived.Test.YtdhobdmhnocbgaaSMsgs
import Derived.Test.YtdhobdmhnocbgaaSDataX
import Derived.Test.YtdhobdmhnocbgaaSRefD
namespace Go.Proofs.Ytdhobdmhnocbgaa
open Go.RowKit Zr

/-- A bool that tells whether something holds. -/
def BoolIs (P : Prop) (e : Ending) : Prop := ∃ b, e = .returned (.bool b) ∧ (b = true ↔ P)

theorem isWord_any (n : Int) (w : World) : Calls Try.prog 118 #[.int .i64 n] w fun e w' => BoolIs (wordOk n) e ∧ w' = w := by
  by_cases c : 0 ≤ n ∧ n ≤ 65535
  · obtain ⟨c1, c2⟩ := c
    go_enter Try.func118, Try.ntmps118
    go_wp2_with fail
    go_ret
    exact ⟨⟨_, rfl, by unfold wordOk; simp [c1]; omega⟩, rfl⟩
  · by_cases c1 : 0 ≤ n
    · have c2 : ¬ n ≤ 65535 := fun h => c ⟨c1, h⟩
      go_enter Try.func118, Try.ntmps118
      go_wp2_with fail
      go_ret
      exact ⟨⟨_, rfl, by unfold wordOk; simp [c1]; omega⟩, rfl⟩
    · clear c
      go_enter Try.func118, Try.ntmps118
      go_wp2_with fail
      go_ret
      exact ⟨⟨_, rfl, by unfold wordOk; simp; omega⟩, rfl⟩

set_option maxHeartbeats 1000000 in
theorem isName_any (s : ByteArray) (w : World) (hs : s.size ≤ 281474976710656) :
    Calls Try.prog 150 #[.string s] w fun e w' => BoolIs (wholeB s = true) e ∧ Below w.heap.size w w' := by
  generalize hR : w.heap.size = R
  have h0 : ∀ o, (w.alloc o).heap[R]? = some o := fun o => by rw [← hR]; exact heap_alloc_new _ _
  have h0' : ∀ o, Below R w (w.alloc o) := fun o => (Below.refl _ _).alloc (Nat.le_of_eq hR.symm) _
  have H0 := hide h0
  have H0' := hide h0'
  clear h0 h0'
  cases hx : nameAt s 0 with
  | error x =>
    have hW : ¬ (wholeB s = true) := by unfold wholeB; rw [hx]; simp
    have HW := hide hW
    have Hx := hide hx
    clear hW hx
    go_enter Try.func150, Try.ntmps150
    go_wp2_with fail
    refine (name_err R s 0 _ hs (unhide H0 _) (by omega) (by omega) x Hx).mono ?_
    rintro e w1 ⟨hx0, rfl, hR1, hg1⟩
    obtain ⟨c0, c1, c2, z0, z1, z2⟩ := rdr_cells hR1
    have hx1 : (x == 0) = false := beq_eq_false_iff_ne.2 hx0
    have HG := hide hg1
    clear hR1 hg1 hx0
    go_wp2_with fail
    go_ret
    exact ⟨⟨_, rfl, by simp [unhide HW]⟩, below_grown (unhide H0' _) (unhide HG) (by simp; omega) (Nat.le_refl _)⟩
  | ok z =>
    obtain ⟨t, k⟩ := z
    have HW := hide (name_same s t k hx)
    have Hx := hide hx
    clear hx
    go_enter Try.func150, Try.ntmps150
    go_wp2_with fail
    refine (name_ok R s 0 _ hs (unhide H0 _) (by omega) (by omega) t k Hx).mono ?_
    rintro e w1 ⟨rfl, hR1, hg1⟩
    obtain ⟨c0, c1, c2, z0, z1, z2⟩ := rdr_cells hR1
    have HG := hide hg1
    clear hR1 hg1
    go_wp2_with fail
    go_ret
    exact ⟨⟨_, rfl, by rw [← unhide HW, bytes_eqb]; simp⟩, below_grown (unhide H0' _) (unhide HG) (by simp; omega) (Nat.le_refl _)⟩

set_option maxHeartbeats 1000000 in
theorem isData_any (d : ByteArray) (t : Int) (w : World) (ht : 0 ≤ t) :
    Calls Try.prog 176 #[.string d, .int .i64 t] w fun e w' => BoolIs (wellD t.toNat d) e ∧ Below w.heap.size w w' := by
  obtain ⟨t, rfl⟩ := Int.eq_ofNat_of_zero_le ht
  rw [Int.toNat_natCast]
  by_cases cs : d.size ≤ 65535
  · have hW : wellD t d ↔ dataP d 0 d.size t = some d := ⟨fun h => h.2, fun h => ⟨cs, h⟩⟩
    have key := fun w => wholeData_any d d 0 d.size t w cs (by show _ = _; rw [Nat.zero_add, extract_all]) (by omega)
    have Key := hide key
    clear key
    cases hp : dataP d 0 d.size t with
    | none =>
      rw [hp] at hW Key
      have HW := hide hW
      clear hW hp
      go_enter Try.func176, Try.ntmps176
      go_wp2_with fail
      refine (unhide Key _).mono ?_
      rintro e w1 ⟨rfl, hb1⟩
      simp only [Option.getD_none, Option.isSome_none]
      go_wp2_with fail
      go_ret
      exact ⟨⟨_, rfl, by rw [unhide HW]; simp⟩, hb1⟩
    | some y =>
      rw [hp] at hW Key
      have HW := hide hW
      clear hW hp
      go_enter Try.func176, Try.ntmps176
      go_wp2_with fail
      refine (unhide Key _).mono ?_
      rintro e w1 ⟨rfl, hb1⟩
      simp only [Option.getD_some, Option.isSome_some]
      go_wp2_with fail
      go_ret
      exact ⟨⟨_, rfl, by rw [unhide HW, bytes_eqb]; simp⟩, hb1⟩
  · have HW : Hid (¬ wellD t d) := fun h => cs h.1
    go_enter Try.func176, Try.ntmps176
    go_wp2_with fail
    go_ret
    exact ⟨⟨_, rfl, by simp [unhide HW]⟩, Below.refl _ _⟩

end Go.Proofs.Ytdhobdmhnocbgaa
