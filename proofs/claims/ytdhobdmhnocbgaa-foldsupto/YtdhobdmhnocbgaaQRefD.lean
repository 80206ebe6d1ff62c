/-
  Walks over the document's own answer: misplaced.
-/
import Derived.Test.YtdhobdmhnocbgaaQRefC
namespace Go.Proofs.Ytdhobdmhnocbgaa
open Go.RowKit Zr

theorem rcells_succ (x : Rc) (l : List Rc) (k : Nat) : (rcells (x :: l))[k + 5]? = (rcells l)[k]? := by simp [rcells]
theorem qcells_succ (x : Qs) (l : List Qs) (k : Nat) : (qcells (x :: l))[k + 3]? = (qcells l)[k]? := by simp [qcells]

theorem rcells_at (l : List Rc) : ∀ (i : Nat) (h : i < l.length), (rcells l)[i * 5]? = some (.string l[i].name) ∧ (rcells l)[i * 5 + 1]? = some (.int .i64 l[i].ty) ∧ (rcells l)[i * 5 + 2]? = some (.int .i64 l[i].cl) ∧ (rcells l)[i * 5 + 3]? = some (.int .i64 l[i].ttl) ∧ (rcells l)[i * 5 + 4]? = some (.string l[i].data) := by
  induction l with
  | nil => intro i h; simp at h
  | cons x l ih =>
    intro i h
    cases i with
    | zero => simp [rcells]
    | succ i =>
      have hi := ih i (by simpa using h)
      have e0 : (i + 1) * 5 = i * 5 + 5 := by omega
      have e1 : (i + 1) * 5 + 1 = i * 5 + 1 + 5 := by omega
      have e2 : (i + 1) * 5 + 2 = i * 5 + 2 + 5 := by omega
      have e3 : (i + 1) * 5 + 3 = i * 5 + 3 + 5 := by omega
      have e4 : (i + 1) * 5 + 4 = i * 5 + 4 + 5 := by omega
      rw [e1, e2, e3, e4, e0, rcells_succ, rcells_succ, rcells_succ, rcells_succ, rcells_succ]
      exact hi

theorem qcells_at (l : List Qs) : ∀ (i : Nat) (h : i < l.length), (qcells l)[i * 3]? = some (.string l[i].name) ∧ (qcells l)[i * 3 + 1]? = some (.int .i64 l[i].ty) ∧ (qcells l)[i * 3 + 2]? = some (.int .i64 l[i].cl) := by
  induction l with
  | nil => intro i h; simp at h
  | cons x l ih =>
    intro i h
    cases i with
    | zero => simp [qcells]
    | succ i =>
      have hi := ih i (by simpa using h)
      have e0 : (i + 1) * 3 = i * 3 + 3 := by omega
      have e1 : (i + 1) * 3 + 1 = i * 3 + 1 + 3 := by omega
      have e2 : (i + 1) * 3 + 2 = i * 3 + 2 + 3 := by omega
      rw [e1, e2, e0, qcells_succ, qcells_succ, qcells_succ]
      exact hi

theorem owns_cell {w : World} {N : Nat} {e : TypeId} {size : Nat} {n : Nat} {xs : List Value} {g : Nat} {c : Nat} (h : w.ownsRow N e size (.slice (some ⟨g, 0, none⟩) n c) n xs) (j : Nat) (u : Value) (hu : xs[j]? = some u) : w.cell? ⟨g, j, none⟩ = some u := by
  have := h.cells (g := g) rfl j u hu
  have hadd : (⟨g, 0, none⟩ : Addr).add j = ⟨g, j, none⟩ := by unfold Addr.add; split <;> simp_all
  rwa [hadd] at this

theorem owns_form {w : World} {N : Nat} {e : TypeId} {size : Nat} {a : Option Addr} {n c : Nat} {xs : List Value} (h : w.ownsRow N e size (.slice a n c) n xs) (hn : 0 < n) : ∃ g, a = some ⟨g, 0, none⟩ ∧ N ≤ g ∧ g < w.heap.size ∧ n ≤ c := by
  rcases h.2 with ⟨h1, h2⟩ | ⟨g, cap, cur, h1, h2, h3, h4, _⟩
  · omega
  · cases h1
    exact ⟨g, rfl, h2, blk_lt h3, h4⟩

set_option maxHeartbeats 1000000 in
theorem misplaced_any (l : List Rc) (x : Rc) (part : Nat) (a : Option Addr) (c N : Nat) (w : World) (hown : w.ownsRow N 86 5 (.slice a l.length c) l.length (rcells l)) (hl : l.length ≤ 65535) :
    Calls Try.prog 77 #[.slice a l.length c, .agg #[.string x.name, .int .i64 x.ty, .int .i64 x.cl, .int .i64 x.ttl, .string x.data], .int .i64 part] w fun e w' => e = .returned (.bool (misB l x part)) ∧ Below w.heap.size w w' := by
  by_cases d : x.ty = 41
  · have d' : ((x.ty : Int) != 41) = false := by simp only [bne_eq_false_iff_eq]; omega
    have hM : misB l x part = (l.any (fun y => y.ty == 41) || part != 2 || decide (x.name ≠ ⟨#[0]⟩)) := by unfold misB; rw [d]; rfl
    have HM := hide hM
    have HO := hide hown
    clear d hM hown
    go_enter Try.func77, Try.ntmps77
    go_wp2_with fail
    go_loop [7] (fun i => ∃ j : Nat, j ≤ l.length ∧ i = .int .i64 j ∧ Hid (∀ k (h : k < l.length), k < j → l[k].ty ≠ 41)) (fun i => l.length - (intOf i).toNat)
    case atStart => exact ⟨0, Nat.zero_le _, rfl, fun k _ h => by omega⟩
    case round =>
      obtain ⟨j, hj, rfl, hno⟩ := hrel
      by_cases c1 : j < l.length
      · obtain ⟨g, rfl, hNg, hg, hc⟩ := owns_form (unhide HO) (by omega)
        have hcell := owns_cell (unhide HO) _ _ (rcells_at l j c1).2.1
        generalize hty : l[j].ty = ty at hcell
        by_cases c2 : ty = 41
        · have c2' : ((ty : Int) == 41) = true := by rw [beq_iff_eq]; omega
          have hany : (l.any fun y => y.ty == 41) = true := List.any_eq_true.2 ⟨l[j], List.getElem_mem c1, by rw [hty, c2]; rfl⟩
          have HA := hide hany
          clear hany c2 hty
          go_wp2_with fail
          go_ret
          exact ⟨ret_bool (by rw [unhide HM, unhide HA]; rfl), (Below.refl _ _).alloc (Nat.le_refl _) _⟩
        · have c2' : ((ty : Int) == 41) = false := beq_eq_false_iff_ne.2 (by omega)
          have HT := hide hty
          have HC := hide c2
          clear hty c2
          go_wp2_with fail
          go_round
          case rel => exact ⟨j + 1, by omega, by go_num, fun k hk hlt => by
            by_cases hkj : k = j
            · subst hkj; rw [unhide HT]; exact unhide HC
            · exact unhide hno k hk (by omega)⟩
          case measure => simp [intOf]; omega
      · have hany : (l.any fun y => y.ty == 41) = false := by
          rw [Bool.eq_false_iff]
          intro h
          obtain ⟨y, hy, hy2⟩ := List.any_eq_true.1 h
          obtain ⟨k, hk, rfl⟩ := List.getElem_of_mem hy
          exact unhide hno k hk (by omega) (by simpa using hy2)
        have HA := hide hany
        clear hany
        have hbe := bytes_eqb x.name ⟨#[0]⟩
        have h0 : (⟨#[0]⟩ : ByteArray).toList = [0] := by rw [ByteArray.toList_eq]
        rw [h0] at hbe
        have HB := hide hbe
        clear hbe h0
        by_cases c3 : part = 2
        · subst c3
          go_wp2_with fail
          go_ret
          refine ⟨ret_bool ?_, (Below.refl _ _).alloc (Nat.le_refl _) _⟩
          rw [unhide HM, unhide HA, unhide HB]
          simp
        · have c3' : ((part : Int) != 2) = true := by rw [bne_iff_ne]; omega
          have HC := hide c3
          clear c3
          go_wp2_with fail
          go_ret
          refine ⟨ret_bool ?_, (Below.refl _ _).alloc (Nat.le_refl _) _⟩
          rw [unhide HM, unhide HA]
          simp [unhide HC]
  · have d' : ((x.ty : Int) != 41) = true := by rw [bne_iff_ne]; omega
    have hM : misB l x part = false := by unfold misB; simp [d]
    have HM := hide hM
    clear d hM hown
    go_enter Try.func77, Try.ntmps77
    go_wp2_with fail
    go_ret
    exact ⟨ret_bool (unhide HM).symm, (Below.refl _ _).alloc (Nat.le_refl _) _⟩

end Go.Proofs.Ytdhobdmhnocbgaa
