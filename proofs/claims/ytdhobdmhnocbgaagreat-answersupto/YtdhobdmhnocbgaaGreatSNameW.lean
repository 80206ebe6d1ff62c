/-
  Walks: the reader's method name.
-/
import Derived.Test.YtdhobdmhnocbgaaGreatSReader
import Derived.Test.YtdhobdmhnocbgaaGreatSNames
import Derived.Deep.RegionHeld3
import Derived.Deep.LoopGhost
import Derived.Deep.DeepCutAuto
namespace Go.Proofs.YtdhobdmhnocbgaaGreat
open Go.RowKit Zr

set_option maxHeartbeats 400000 in
theorem name_fail (R : Nat) (b : ByteArray) (k f : Int) (w : World) (hR : w.heap[R]? = some (rdr b k f)) (hf : f ≠ 0) :
    Calls Tryz.prog 158 #[.pointer (some ⟨R, 0, none⟩)] w fun e w' => e = .returned (.string ⟨#[]⟩) ∧ w' = w := by
  obtain ⟨c0, c1, c2, z0, z1, z2⟩ := rdr_cells hR
  clear hR
  have hf' : (f != 0) = true := by rw [bne_iff_ne]; exact hf
  go_enter Tryz.func158, Tryz.ntmps158
  go_wp2_with fail
  go_ret
  exact ⟨rfl, rfl⟩

/-- What the method leaves. -/
def NamePost (R : Nat) (b : ByteArray) (k : Int) (w : World) (res : Except Int (ByteArray × Nat)) (e : Ending) (w' : World) : Prop :=
  match res with
  | .ok (s, t) => e = .returned (.string s) ∧ w'.heap[R]? = some (rdr b (k + t) 0) ∧ w.grownBy w' (some R)
  | .error x => x ≠ 0 ∧ e = .returned (.string ⟨#[]⟩) ∧ w'.heap[R]? = some (rdr b k x) ∧ w.grownBy w' (some R)

def Zr.Run.obj (r : Run) : Obj := .cells #[.string r.labels, .int .i64 r.next, .bool r.pointed, .int .i64 r.to, .int .i64 r.fail] 182 (0, 0)

theorem run_cells {w : World} {P : Nat} {r : Run} (h : w.heap[P]? = some r.obj) :
    w.cell? ⟨P, 0, none⟩ = some (.string r.labels) ∧ w.cell? ⟨P, 1, none⟩ = some (.int .i64 r.next) ∧ w.cell? ⟨P, 2, none⟩ = some (.bool r.pointed) ∧ w.cell? ⟨P, 3, none⟩ = some (.int .i64 r.to) ∧ w.cell? ⟨P, 4, none⟩ = some (.int .i64 r.fail) ∧
    w.frozen? ⟨P, 0, none⟩ = false ∧ w.frozen? ⟨P, 1, none⟩ = false ∧ w.frozen? ⟨P, 2, none⟩ = false ∧ w.frozen? ⟨P, 3, none⟩ = false ∧ w.frozen? ⟨P, 4, none⟩ = false := by
  unfold Run.obj at h
  refine ⟨?_, ?_, ?_, ?_, ?_, frozen_of_blk h _, frozen_of_blk h _, frozen_of_blk h _, frozen_of_blk h _, frozen_of_blk h _⟩ <;> (rw [cell_of_blk h]; rfl)

theorem run_store {w : World} {P : Nat} {x0 x1 x2 x3 x4 : Value} (h : w.heap[P]? = some (.cells #[x0, x1, x2, x3, x4] 182 (0, 0))) (r : Run) :
    (((((w.setCell ⟨P, 0, none⟩ (.string r.labels)).setCell ⟨P, 1, none⟩ (.int .i64 r.next)).setCell ⟨P, 2, none⟩ (.bool r.pointed)).setCell ⟨P, 3, none⟩ (.int .i64 r.to)).setCell ⟨P, 4, none⟩ (.int .i64 r.fail)).heap[P]? = some r.obj := by
  rw [blk_set (blk_set (blk_set (blk_set (blk_set h _ _) _ _) _ _) _ _) _ _]; rfl

theorem below_set5 {B : Nat} {a w : World} {P : Nat} (h : Below B a w) (hP : B ≤ P) (v0 v1 v2 v3 v4 : Value) :
    Below B a (((((w.setCell ⟨P, 0, none⟩ v0).setCell ⟨P, 1, none⟩ v1).setCell ⟨P, 2, none⟩ v2).setCell ⟨P, 3, none⟩ v3).setCell ⟨P, 4, none⟩ v4) :=
  ((((h.setCell hP _).setCell hP _).setCell hP _).setCell hP _).setCell hP _

set_option maxHeartbeats 2000000 in
theorem name_any (R : Nat) (b : ByteArray) (k : Int) (w : World) (hb : b.size ≤ 281474976710656) (hR : w.heap[R]? = some (rdr b k 0)) (h1 : 0 ≤ k) (h2 : k ≤ b.size) :
    Calls Tryz.prog 158 #[.pointer (some ⟨R, 0, none⟩)] w fun e w' => NamePost R b k w (nameAt b k.toNat) e w' := by
  obtain ⟨c0, c1, c2, z0, z1, z2⟩ := rdr_cells hR
  have HR := hide hR
  have hRl := blk_lt hR
  clear hR
  have n0 := World.new_ne w ⟨R, 0, none⟩ c0
  have n1 := World.new_ne w ⟨R, 1, none⟩ c1
  obtain ⟨r, hr⟩ : ∃ r, runOf b k.toNat 254 = r := ⟨_, rfl⟩
  have Hr := hide hr
  clear hr
  generalize hres : nameAt b k.toNat = res
  have Hn := hide hres
  clear hres
  go_enter Tryz.func158, Tryz.ntmps158
  go_wp2_with fail
  go_cut [3] (fun p w' => ∃ P, p = .pointer (some ⟨P, 0, none⟩) ∧ w.heap.size ≤ P ∧ w'.heap[P]? = some r.obj ∧ Below w.heap.size w w')
  case first =>
    go_region_held3 (fun w' => w'.cell? ⟨R, 0, none⟩ = some (.string b) ∧ w'.cell? ⟨R, 1, none⟩ = some (.int .i64 k)) (go_keep)
      (first | (go_at_call 171; refine (readRun_is _ _ _ _ r Hr hb (by omega) (by omega)).mono ?_; rintro e w1 ⟨rfl, hb1⟩; obtain ⟨hc1, hf1⟩ := bcell hb1; have k0 : w1.cell? ⟨R, 0, none⟩ = some (.string b) := (by first | exact (hb1.cell (p := ⟨R, 0, none⟩) hRl).trans c0 | exact (hb1.cell (p := ⟨R, 0, none⟩) (by simp; omega)).trans (by simp [World.cell?_alloc_some, c0])); have k1 : w1.cell? ⟨R, 1, none⟩ = some (.int .i64 k) := (by first | exact (hb1.cell (p := ⟨R, 1, none⟩) hRl).trans c1 | exact (hb1.cell (p := ⟨R, 1, none⟩) (by simp; omega)).trans (by simp [World.cell?_alloc_some, c1]))))
    all_goals go_wp2_with fail
    all_goals go_meet
    · have hb2 := below_undrew hb1
      exact ⟨_, rfl, hb2.size, heap_alloc_new _ _, Below.alloc hb2 hb2.size _⟩
    · have hb2 := below_undrew hb1
      refine ⟨_, rfl, Nat.le_refl _, ?_, ?_⟩
      · refine run_store ((hb2.block w.heap.size (by simp)).trans (heap_alloc_new _ _)) r
      · exact below_set5 (((Below.refl _ _).alloc (Nat.le_refl _) _).trans (hb2.mono (by simp))) (Nat.le_refl _) _ _ _ _ _
  case rest =>
    obtain ⟨P, rfl, hP, hPo, hbw⟩ := hcut
    obtain ⟨hf0, hf1, hf2, hf3⟩ := name_first b k.toNat
    rw [unhide Hr] at hf0 hf1 hf2 hf3
    have HB : Hid (∀ x, behind b r.labels r = x → res = match x with
      | .ok s => .ok (s, (r.next - k.toNat).toNat)
      | .error e => .error e) := fun x hx => by rw [← unhide Hn, hf3, hx]; cases x <;> rfl
    have H1 := hide hf1
    have H2 := hide hf2
    clear hf1 hf2 hf3 Hn Hr
    obtain ⟨p0, p1, p2, p3, p4, y0, y1, y2, y3, y4⟩ := run_cells hPo
    have HP := hide hPo
    clear hPo
    go_wp2_with fail
    clear p0 p1 p2 p3 p4 y0 y1 y2 y3 y4 n0 n1
    go_loopg [5] (if r.pointed then r.to.toNat + 1 else 0) (fun g l w' => ∃ (L : ByteArray) (q : Run), l = .string L ∧ Hid (w'.heap[P]? = some q.obj) ∧ Below w.heap.size w w' ∧ Hid (behind b L q = behind b r.labels r) ∧ L.size ≤ 254 ∧ Hid (q.pointed = true → 0 ≤ q.to ∧ q.to < 281474976710657 ∧ q.fail = 0 ∧ q.to.toNat < g))
    case atStart => exact ⟨r.labels, r, rfl, HP, hbw, rfl, hf0, fun h => ⟨(unhide H2 h).1, by have := (unhide H2 h).2.1; omega, (unhide H2 h).2.2, by rw [if_pos h]; omega⟩⟩
    case round =>
      obtain ⟨L, q, rfl, hq, hbq, HBq, hL, HQ⟩ := hrel
      obtain ⟨p0, p1, p2, p3, p4, y0, y1, y2, y3, y4⟩ := run_cells (unhide hq)
      have q0 := (hbq.cell (p := ⟨R, 0, none⟩) hRl).trans c0
      cases hpt : q.pointed with
      | true =>
        obtain ⟨g1, g2, g3, g4⟩ := unhide HQ hpt
        obtain ⟨s1, s2, s3⟩ := behind_step b L q hpt hL
        obtain ⟨r', hr'⟩ : ∃ r', runOf b q.to.toNat (254 - (L.size : Int)) = r' := ⟨_, rfl⟩
        rw [hr'] at s1 s2 s3
        have Hr' : Hid (runOf b q.to.toNat (IntKind.i64.wrap (254 - (L.size : Int))) = r') := by
          show _ = _
          rw [IntWalk.i64_in _ (by omega)]; exact hr'
        have S1 := hide s1
        have S3 := hide s3
        have Hpt := hide hpt
        have G3 := hide g3
        rw [hpt] at p2
        clear hr' s1 s3 hpt g3
        go_wp2_with fail
        go_cut [5] (fun l w' => l = .string L ∧ w'.heap[P]? = some r'.obj ∧ Below w.heap.size w w')
        case first =>
          go_region_with (first | (go_at_call 171; refine (readRun_is _ _ _ _ r' Hr' hb (by omega) (by omega)).mono ?_; rintro e w1 ⟨rfl, hb1⟩; obtain ⟨e0, e1, e2, e3, e4, f0, f1, f2, f3, f4⟩ := run_cells ((hb1.block P (blk_lt (unhide hq))).trans (unhide hq))))
          all_goals go_wp2_with fail
          all_goals go_meet
          all_goals
            have hb2 := below_undrew hb1
            exact ⟨rfl, run_store ((hb2.block P (blk_lt (unhide hq))).trans (unhide hq)) r', below_set5 (hbq.trans (hb2.mono hbq.size)) hP _ _ _ _ _⟩
        case rest =>
          obtain ⟨rfl, hq2, hb3⟩ := hcut
          clear p0 p1 p2 p3 p4 y0 y1 y2 y3 y4 q0 hq hbq
          obtain ⟨p0, p1, p2, p3, p4, y0, y1, y2, y3, y4⟩ := run_cells hq2
          have hq3 := hide hq2
          clear hq2
          go_wp2_with fail
          go_roundg (q.to.toNat)
          case measure => exact g4
          case rel =>
            exact ⟨L ++ r'.labels, r', rfl, hq3, hb3, by show _ = _; rw [← unhide S1]; exact unhide HBq, by rw [ByteArray.size_append]; exact s2, fun h => ⟨((unhide S3) h).1, by have := ((unhide S3) h).2.1; omega, ((unhide S3) h).2.2, by have := ((unhide S3) h).2.1; have := ((unhide S3) h).1; omega⟩⟩
      | false =>
        rw [hpt] at p2
        have Hpt := hide hpt
        clear hpt
        by_cases hf : q.fail = 0
        · have hres := unhide HB _ ((unhide HBq).symm.trans (behind_end b L q (unhide Hpt) hf))
          simp only at hres
          have hrf : r.fail = 0 := by
            by_cases hc : r.fail = 0
            · exact hc
            · have hp : r.pointed = false := by
                cases hp : r.pointed with
                | false => rfl
                | true => exact absurd (unhide H2 hp).2.2 hc
              have h1 := (behind_fail b r.labels r hp hc).symm.trans ((unhide HBq).symm.trans (behind_end b L q (unhide Hpt) hf))
              cases h1
          have hnx := (unhide H1 hrf).1
          subst hres
          rw [hf] at p4
          clear hf hrf
          obtain ⟨c1', c2'⟩ : wr.cell? ⟨R, 1, none⟩ = some (.int .i64 k) ∧ wr.frozen? ⟨R, 1, none⟩ = false := ⟨(hbq.cell (p := ⟨R, 1, none⟩) hRl).trans c1, (hbq.frozen (p := ⟨R, 1, none⟩) hRl).trans z1⟩
          go_wp2_with fail
          go_ret
          refine ⟨rfl, ?_, ?_⟩
          · have h := rdr_set1 ((hbq.block R hRl).trans (unhide HR)) r.next
            rw [h]
            congr 2
            omega
          · exact grown_trans (grown_below hbq) (grown_set _ _ _ _)
        · have hres := unhide HB _ ((unhide HBq).symm.trans (behind_fail b L q (unhide Hpt) hf))
          simp only at hres
          subst hres
          have hf' : (q.fail != 0) = true := by rw [bne_iff_ne]; exact hf
          have Hf := hide hf
          clear hf
          obtain ⟨c1', c2'⟩ : wr.cell? ⟨R, 2, none⟩ = some (.int .i64 0) ∧ wr.frozen? ⟨R, 2, none⟩ = false := ⟨(hbq.cell (p := ⟨R, 2, none⟩) hRl).trans c2, (hbq.frozen (p := ⟨R, 2, none⟩) hRl).trans z2⟩
          go_wp2_with fail
          go_ret
          refine ⟨unhide Hf, rfl, ?_, ?_⟩
          · exact rdr_set2 ((hbq.block R hRl).trans (unhide HR)) q.fail
          · exact grown_trans (grown_below hbq) (grown_set _ _ _ _)

theorem name_ok (R : Nat) (b : ByteArray) (k : Int) (w : World) (hb : b.size ≤ 281474976710656) (hR : w.heap[R]? = some (rdr b k 0)) (h1 : 0 ≤ k) (h2 : k ≤ b.size) (s : ByteArray) (t : Nat) (hn : Hid (nameAt b k.toNat = .ok (s, t))) :
    Calls Tryz.prog 158 #[.pointer (some ⟨R, 0, none⟩)] w fun e w' => e = .returned (.string s) ∧ w'.heap[R]? = some (rdr b (k + t) 0) ∧ w.grownBy w' (some R) := by
  refine (name_any R b k w hb hR h1 h2).mono ?_
  rw [hn.out]
  exact fun _ _ h => h

theorem name_err (R : Nat) (b : ByteArray) (k : Int) (w : World) (hb : b.size ≤ 281474976710656) (hR : w.heap[R]? = some (rdr b k 0)) (h1 : 0 ≤ k) (h2 : k ≤ b.size) (x : Int) (hn : Hid (nameAt b k.toNat = .error x)) :
    Calls Tryz.prog 158 #[.pointer (some ⟨R, 0, none⟩)] w fun e w' => x ≠ 0 ∧ e = .returned (.string ⟨#[]⟩) ∧ w'.heap[R]? = some (rdr b k x) ∧ w.grownBy w' (some R) := by
  refine (name_any R b k w hb hR h1 h2).mono ?_
  rw [hn.out]
  exact fun _ _ h => h

end Go.Proofs.YtdhobdmhnocbgaaGreat
