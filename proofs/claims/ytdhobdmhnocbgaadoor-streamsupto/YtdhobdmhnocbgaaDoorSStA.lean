/-
  Small laws on worlds, blocks and results that the walks want.
-/
/-
  append onto a row of the call's own, of whatever is appended (a string's bytes, a slice, nil): where the new slice lies; bytes as a string.
-/
/-
  Walks: one run of a name (endByPointer, readRun).
-/
/-
  Walks: the reader's plain methods (bytes, number).
-/
/-
  Walks: numbers as bytes (Word, Long).
-/
/-
  Walks: streams: how long the first message is, what is behind it; what a feed holds.
-/
import Derived.Test.YtdhobdmhnocbgaaDoorRows
import Derived.Test.YtdhobdmhnocbgaaDoorSPure
import Derived.WalkKit
import Derived.WalkSpells
import Derived.WalkLawsBesides
import Derived.Deep.AppendSrc
import Derived.Deep.AppendLies
import Derived.Laws.IdiomStrings
import Derived.Deep.QuietTactic
import Derived.BigQuiet
import Derived.Test.YtdhobdmhnocbgaaDoorSFrm
import Derived.Deep.LoopGhost
import Derived.Deep.DeepCutAuto
import Derived.Deep.RegionHeld3
namespace Go.Proofs.YtdhobdmhnocbgaaDoor
open Go.RowKit

theorem hide {p : Prop} (h : p) : Hid p := h
theorem unhide {p : Prop} (h : Hid p) : p := h

theorem ret_int {k : IntKind} {a b : Int} (h : a = b) : Ending.returned (.int k a) = .returned (.int k b) := by rw [h]
theorem ret_bool {a b : Bool} (h : a = b) : Ending.returned (.bool a) = .returned (.bool b) := by rw [h]
theorem cell_of_blk {w : World} {k : Nat} {cs : Array Value} {t : TypeId} (h : w.heap[k]? = some (.cells cs t (0, 0))) (j : Nat) : w.cell? ⟨k, j, none⟩ = cs[j]? := by
  simp [World.cell?, h]
theorem frozen_of_blk {w : World} {k : Nat} {cs : Array Value} {t : TypeId} (h : w.heap[k]? = some (.cells cs t (0, 0))) (j : Nat) : w.frozen? ⟨k, j, none⟩ = false := by
  simp [World.frozen?, h]

theorem blk_set {w : World} {k : Nat} {cs : Array Value} {t : TypeId} (h : w.heap[k]? = some (.cells cs t (0, 0))) (j : Nat) (v : Value) : (w.setCell ⟨k, j, none⟩ v).heap[k]? = some (.cells (cs.setIfInBounds j v) t (0, 0)) := by
  simp [World.setCell, Array.getElem?_modify, h]
theorem blk_set_other {w : World} {k R : Nat} (h : k ≠ R) (j : Nat) (v : Value) : (w.setCell ⟨R, j, none⟩ v).heap[k]? = w.heap[k]? := Below.heap_setCell _ _ _ _ h
theorem size_set (w : World) (a : Addr) (v : Value) : (w.setCell a v).heap.size = w.heap.size := by simp [World.setCell]
theorem blk_lt {w : World} {k : Nat} {o : Obj} (h : w.heap[k]? = some o) : k < w.heap.size := (Array.getElem?_eq_some_iff.1 h).1

theorem below_undrew {B : Nat} {w w' : World} (h : Below B w.drew w') : Below B w w' := ⟨h.os, h.tape, h.output, h.size, h.block⟩

def Zr.Run.val (r : Zr.Run) : Value := .agg #[.string r.labels, .int .i64 r.next, .bool r.pointed, .int .i64 r.to, .int .i64 r.fail]

end Go.Proofs.YtdhobdmhnocbgaaDoor

namespace Go.Proofs.YtdhobdmhnocbgaaDoor
open Go.RowKit

section
variable {P : Program} (w : World)

theorem run_append_room_row (t tx ty e : TypeId) (i : TypeInfo) (ht : P.underlying t = some (.slice e)) (hi : P.info? e = some i) (g sLen sCap : Nat) (cur : Array Value) (hg : w.heap[g]? = some (.cells cur e (0, 0))) (x : Value) (n : Nat) (news : List Value) (hs : Src P i.size tx x n news w)
    (hroom : sLen + n ≤ sCap) (hfit : sLen * i.size + news.length ≤ cur.size) :
    (Builtin.append_ #[t, tx] ty #[.slice (some ⟨g, 0, none⟩) sLen sCap, x]).run P w = .ok (.slice (some ⟨g, 0, none⟩) (sLen + n) sCap) (w.setRow g (cur.toList.take (sLen * i.size) ++ news ++ cur.toList.drop (sLen * i.size + news.length)).toArray) := by
  have hst := run_storeCells_at (P := P) g (sLen * i.size) e news 0 cur w hg (by simpa using hfit) hs.one
  simp only [Nat.add_zero] at hst
  rcases hs.kind with ⟨e', hk⟩ | hk <;> simp [Builtin.append_, run_underlying ht, run_underlying hk, sizeOf, typeInfo, hi, hs.len, hroom, hs.cells, Addr.add_lit, hst]

theorem run_append_row (base : Nat) (t tx ty e : TypeId) (i : TypeInfo) (z : Value) (size bytes : Nat) (ht : P.underlying t = some (.slice e)) (hi : P.info? e = some i) (hz : i.zero = some z)
    (hsize : i.size = size) (hby : i.bytes = bytes) (hzs : z.cells.size = size) (v : Value) (n : Nat) (xs : List Value) (hown : w.ownsRow base e size v n xs)
    (x : Value) (m : Nat) (news : List Value) (hs : Src P size tx x m news w)
    (h63 : n + m ≤ maxLen) (hbytes : (n + m) * bytes ≤ 140737488355328) (hbase : base ≤ w.heap.size) :
    ∃ v' w', (Builtin.append_ #[t, tx] ty #[v, x]).run P w = .ok v' w' ∧ w'.ownsRow base e size v' (n + m) (xs ++ news) ∧ w.grownBy w' v.ownBlock ∧ (v'.ownBlock = v.ownBlock ∨ v'.ownBlock = some w.heap.size) := by
  subst hsize
  subst hby
  have hsmall : n + m ≤ 9223372036854775807 := by simp only [maxLen] at h63; omega
  have hlen : (xs ++ news).length = (n + m) * i.size := by rw [List.length_append, hown.1, hs.newsLen, Nat.add_mul]
  have grown : ∀ (old : Nat), old < n + m → ∀ (row : Option Nat),
      (w.drew.alloc (.cells ((xs ++ news).toArray ++ Builtin.zeroCells z.cells (grownCap w (n + m) old e - (n + m))) e)).ownsRow base e i.size
        (.slice (some ⟨w.heap.size, 0, none⟩) (n + m) (grownCap w (n + m) old e)) (n + m) (xs ++ news) ∧
      w.grownBy (w.drew.alloc (.cells ((xs ++ news).toArray ++ Builtin.zeroCells z.cells (grownCap w (n + m) old e - (n + m))) e)) row := by
    intro old ho row
    have hge := grownCap_ge w (n + m) old e
    have hcm : grownCap w (n + m) old e ≤ maxLen := grownCap_le_maxLen w (n + m) old e h63
    refine ⟨⟨hlen, .inr ⟨w.heap.size, _, _, rfl, hbase, heap_alloc_new w.drew _, hge, hcm, ?_, ?_⟩⟩, ⟨rfl, rfl, rfl, by simp, fun k hk _ => heap_alloc_old w.drew _ hk⟩⟩
    · simp only [Array.size_append, List.size_toArray, size_zeroCells, hzs, hlen, ← Nat.add_mul]
      congr 1
      omega
    · simp only [Array.toList_append]
      rw [← hlen]
      exact List.take_left
  rcases hown.2 with ⟨rfl, rfl⟩ | ⟨g, cap, cur, rfl, hbg, hg, hnc, hcm, hcs, htake⟩
  · have hx : xs = [] := List.eq_nil_of_length_eq_zero (by simpa using hown.1)
    subst hx
    by_cases hm : m = 0
    · subst hm
      have hn : news = [] := List.eq_nil_of_length_eq_zero (by simpa using hs.newsLen)
      subst hn
      refine ⟨.slice none 0 0, w, ?_, World.ownsRow_nil w base e i.size, ⟨rfl, rfl, rfl, Nat.le_refl _, fun _ _ _ => rfl⟩, Or.inl rfl⟩
      rcases hs.kind with ⟨e', hk⟩ | hk <;> simp [Builtin.append_, run_underlying ht, run_underlying hk, sizeOf, typeInfo, hi, hs.len, hs.cells]
    · have hr := run_append_grow_src (P := P) w t tx ty e i z ht hi hz none 0 0 [] (run_firstCells_none w.drew i.size 0 0 0) x m news hs (by omega) (by omega) (growslice_fits (by omega) hbytes)
      have hgr := grown 0 (by omega) (Value.ownBlock (.slice none 0 0))
      simp only [Nat.zero_add, List.nil_append] at hgr hr ⊢
      exact ⟨_, _, hr, hgr.1, hgr.2, Or.inr rfl⟩
  · by_cases hroom : n + m ≤ cap
    · have hfit : n * i.size + news.length ≤ cur.size := by rw [hs.newsLen, hcs, ← Nat.add_mul]; exact Nat.mul_le_mul_right _ hroom
      have hr := run_append_room_row (P := P) w t tx ty e i ht hi g n cap cur hg x m news hs hroom hfit
      refine ⟨_, _, hr, ⟨hlen, .inr ⟨g, cap, _, rfl, hbg, setRow_heap w g cur _ e _ hg, hroom, hcm, ?_, ?_⟩⟩, ⟨rfl, rfl, rfl, by simp, fun k _ hk => setRow_other w g k _ (fun e => hk (by simp [Value.ownBlock, e]))⟩, Or.inl rfl⟩
      · simp only [List.size_toArray, List.length_append, List.length_take, List.length_drop, Array.length_toList]
        omega
      · rw [htake, ← hlen]
        exact List.take_left
    · have holds : ∀ j u, xs[j]? = some u → w.cell? ((⟨g, 0, none⟩ : Addr).add j) = some u := hown.cells (g := g) rfl
      have hold := run_firstCells_some (P := P) w.drew i.size n ⟨g, 0, none⟩ n cap xs hown.1 (by simpa using holds)
      have hr := run_append_grow_src (P := P) w t tx ty e i z ht hi hz (some ⟨g, 0, none⟩) n cap xs hold x m news hs (by omega) (by omega) (growslice_fits (by omega) hbytes)
      have hgr := grown cap (by omega) (Value.ownBlock (.slice (some ⟨g, 0, none⟩) n cap))
      exact ⟨_, _, hr, hgr.1, hgr.2, Or.inr rfl⟩

/-- At the list of a plain region's operations. -/
theorem wpList_append_row {ops : Array Oper} {rest : List Oper} {o : Oper} {a : Act} {Q : Exit → Act → World → Prop} (hgd : o.guard = none) (s x : Operand) (t tx : TypeId)
    (ho : o.op = .call { callee := .builtin .append, args := #[s, x], argTypes := #[t, tx] })
    (base : Nat) (e : TypeId) (i : TypeInfo) (z : Value) (size bytes : Nat) (ht : P.underlying t = some (.slice e)) (hi : P.info? e = some i) (hz : i.zero = some z)
    (hsize : i.size = size) (hby : i.bytes = bytes) (hzs : z.cells.size = size)
    (v : Value) (n : Nat) (xs : List Value) (hs : a.eval s = v) (hown : w.ownsRow base e size v n xs)
    (y : Value) (m : Nat) (news : List Value) (hx : a.eval x = y) (hsrc : Src P size tx y m news w)
    (h63 : n + m ≤ maxLen) (hbytes : (n + m) * bytes ≤ 140737488355328) (hbase : base ≤ w.heap.size)
    (h : ∀ a' c' w', w'.ownsRow base e size (.slice a' (n + m) c') (n + m) (xs ++ news) → w.grownBy w' v.ownBlock → ((Value.slice a' (n + m) c').ownBlock = v.ownBlock ∨ (Value.slice a' (n + m) c').ownBlock = some w.heap.size) → wpList P ops Q rest (a.put o.dst (.slice a' (n + m) c')) w') : wpList P ops Q (o :: rest) a w := by
  refine wpList_plain hgd fun K hK => ?_
  obtain ⟨v', w', hr, h2, h3, h4⟩ := run_append_row (P := P) w base t tx o.type e i z size bytes ht hi hz hsize hby hzs v n xs hown y m news hsrc h63 hbytes hbase
  unfold Oper.wp execOp
  simp only [ho, resolve, invoke, builtin, Sem.run_bind, Sem.run_pure, Result.andThen_ok, List.map_toArray, List.map_cons, List.map_nil, hs, hx, hr]
  obtain ⟨a', c', rfl⟩ : ∃ a' c', v' = .slice a' (n + m) c' := by
    rcases h2.2 with ⟨g1, g2⟩ | ⟨g, cap, cur, g1, g2⟩
    · exact ⟨none, 0, by rw [g1, g2]⟩
    · exact ⟨_, _, g1⟩
  exact hK _ _ (h a' c' w' h2 h3 h4)

/-- string(b), b's bytes a row of the call's own. -/
theorem run_bytes_row (src dst e : TypeId) (hs : P.underlying src = some (.slice e)) (he : P.underlying e = some (.int .u8)) (hd : P.underlying dst = some .string) (base : Nat) (v : Value) (s : ByteArray) (hown : w.ownsRow base e 1 v s.size (byteCells s)) :
    (convert src dst v).run P w = .ok (.string s) w := by
  rcases hown.2 with ⟨rfl, hz⟩ | ⟨g, cap, cur, rfl, hbg, hg, hnc, hcm, hcs, htake⟩
  · have e0 : s = ⟨#[]⟩ := ByteArray.ext (Array.eq_empty_of_size_eq_zero hz)
    subst e0
    rw [run_convert_bytes_string w src dst e none 0 0 hs he hd]
    unfold Conv.bytesToString
    simp
    rfl
  · have h1 := run_convert_bytes_back (P := P) w src dst e ⟨g, 0, none⟩ cap s.data.toList hs he hd (fun j hj => by
      have h2 := hown.cells (g := g) rfl j (.int .u8 (s.data.toList[j].toNat : Int)) (by unfold byteCells; rw [List.getElem?_map, List.getElem?_eq_getElem hj]; rfl)
      exact h2)
    have h3 : s.data.toList.length = s.size := by rw [Array.length_toList]; rfl
    rw [h3] at h1
    rw [h1]

end

end Go.Proofs.YtdhobdmhnocbgaaDoor

namespace Go.Proofs.YtdhobdmhnocbgaaDoor
open Go.RowKit Zr

end Go.Proofs.YtdhobdmhnocbgaaDoor

namespace Go.Proofs.YtdhobdmhnocbgaaDoor
open Go.RowKit Zr

theorem grown_set (w : World) (R o : Nat) (v : Value) : w.grownBy (w.setCell ⟨R, o, none⟩ v) (some R) :=
  ⟨rfl, rfl, rfl, by simp [World.setCell], fun k _ hk => Below.heap_setCell _ _ _ _ (fun e => hk (by rw [e]))⟩
theorem grown_drewN (w : World) (n : Nat) (row : Option Nat) : w.grownBy (w.drewN n) row := ⟨rfl, rfl, rfl, Nat.le_refl _, fun _ _ _ => rfl⟩
theorem grown_trans {a b c : World} {row : Option Nat} (h : a.grownBy b row) (k : b.grownBy c row) : a.grownBy c row :=
  ⟨k.os.trans h.os, k.tape.trans h.tape, k.output.trans h.output, Nat.le_trans h.size k.size, fun i hi hr => (k.block i (Nat.lt_of_lt_of_le hi h.size) hr).trans (h.block i hi hr)⟩
theorem grown_below {a b : World} {row : Option Nat} (h : Below a.heap.size a b) : a.grownBy b row := ⟨h.os, h.tape, h.output, h.size, fun k hk _ => h.block k hk⟩

end Go.Proofs.YtdhobdmhnocbgaaDoor

namespace Go.Proofs.YtdhobdmhnocbgaaDoor
open Go.RowKit Zr

theorem wd_owns (w : World) (n : Nat) (h : n < 65536) : (w.alloc (.cells #[.int .u8 ((n : Int) / 256), .int .u8 ((n : Int) % 256)] 5)).ownsRow w.heap.size 5 1 (.slice (some ⟨w.heap.size, 0, none⟩) 2 2) (wd n).size (byteCells (wd n)) := by
  refine ⟨rfl, .inr ⟨w.heap.size, 2, _, rfl, Nat.le_refl _, heap_alloc_new _ _, Nat.le_refl _, by decide, rfl, ?_⟩⟩
  have e : byteCells (wd n) = [.int .u8 (((UInt8.ofNat (n / 256)).toNat : Nat) : Int), .int .u8 (((UInt8.ofNat (n % 256)).toNat : Nat) : Int)] := rfl
  rw [e, UInt8.toNat_ofNat', UInt8.toNat_ofNat']
  show [_, _] = _
  congr 2
  · omega
  · congr 1; omega

set_option maxRecDepth 100000 in
set_option maxHeartbeats 400000 in
theorem word_any (n : Nat) (w : World) (h : n < 65536) :
    Calls Tryd.prog 26 #[.int .i64 n] w fun e w' => e = .returned (.string (wd n)) ∧ Below w.heap.size w w' := by
  go_enter Tryd.func26, Tryd.ntmps26
  go_wp2_with fail
  rw [run_bytes_row _ 59 9 5 Tryd.underlying59 Tryd.underlying5 Tryd.underlying9 w.heap.size _ (wd n) (wd_owns w n h)]
  go_wp2_with fail
  go_ret
  exact ⟨rfl, (Below.refl _ _).alloc (Nat.le_refl _) _⟩

end Go.Proofs.YtdhobdmhnocbgaaDoor

namespace Go.Proofs.YtdhobdmhnocbgaaDoor
open Go.RowKit Zr

/-- How many bytes the first message takes. -/
def sizeP (b : ByteArray) : Nat := if b.size < 2 then 2 else 2 + num b 0 2

theorem num_two (b : ByteArray) : num b 0 2 = 256 * bt b 0 + bt b 1 := by
  show 256 * (256 * 0 + bt b (0 + 0)) + bt b (0 + 1) = _
  rw [Nat.mul_zero, Nat.zero_add]

theorem size_le (b : ByteArray) : sizeP b ≤ 65537 := by
  unfold sizeP
  split
  · omega
  · rw [num_two]; have := bt_lt b 0; have := bt_lt b 1; omega

set_option maxHeartbeats 400000 in
theorem size_s (b : ByteArray) (w : World) (hb : b.size ≤ 281474976710656) :
    Calls Tryd.prog 30 #[.string b] w fun e w' => e = .returned (.int .i64 (sizeP b)) ∧ ∃ n, w' = w.drewN n := by
  by_cases c : b.size < 2
  · have h : Hid (sizeP b = 2) := by unfold sizeP; show _ = _; rw [if_pos c]
    go_enter Tryd.func30, Tryd.ntmps30
    go_wp2_with fail
    go_ret
    exact ⟨by rw [unhide h]; rfl, 0, rfl⟩
  · have h : Hid (((sizeP b : Nat) : Int) = 2 + 256 * (bt b 0 : Int) + bt b 1) := by unfold sizeP; show _ = _; rw [if_neg c, num_two]; omega
    have g0 := bt_get b 0 (by omega)
    have g1 := bt_get b 1 (by omega)
    have l0 := bt_lt b 0
    have l1 := bt_lt b 1
    go_enter Tryd.func30, Tryd.ntmps30
    go_wp2_with fail
    go_quiet (fail)
    go_wp2_with fail
    go_ret
    exact ⟨ret_int (unhide h).symm, _, rfl⟩

/-- The first message of bytes is whole. -/
def isWhl (b : ByteArray) : Prop := sizeP b ≤ b.size

instance (b : ByteArray) : Decidable (isWhl b) := by unfold isWhl; exact inferInstance

theorem isWhl_iff (b : ByteArray) : isWhl b ↔ (0 + 2 ≤ b.size ∧ 0 + 2 + num b 0 2 ≤ b.size) := by
  unfold isWhl sizeP
  by_cases c : b.size < 2
  · rw [if_pos c]; omega
  · rw [if_neg c]; omega

def firstM (b : ByteArray) : ByteArray := if isWhl b then b.extract 2 (sizeP b) else ⟨#[]⟩
def firstR (b : ByteArray) : ByteArray := if isWhl b then b.extract (sizeP b) b.size else ⟨#[]⟩

theorem size_ge (b : ByteArray) : 2 ≤ sizeP b := by unfold sizeP; split <;> omega

set_option maxHeartbeats 400000 in
theorem first_s (b : ByteArray) (w : World) (hb : b.size ≤ 281474976710656) :
    Calls Tryd.prog 28 #[.string b] w fun e w' => e = .returned (.tuple #[.string (firstM b), .string (firstR b), .bool (decide (isWhl b))]) ∧ ∃ n, w' = w.drewN n := by
  have key := fun W => size_s b W hb
  have hge := size_ge b
  have hle := size_le b
  by_cases c : isWhl b
  · have e1 : firstM b = b.extract 2 (sizeP b) := by unfold firstM; rw [if_pos c]
    have e2 : firstR b = b.extract (sizeP b) b.size := by unfold firstR; rw [if_pos c]
    have e3 : decide (isWhl b) = true := decide_eq_true c
    rw [e1, e2, e3]
    unfold isWhl at c
    clear e1 e2 e3
    have K := hide key
    clear key
    generalize sizeP b = n at *
    go_enter Tryd.func28, Tryd.ntmps28
    go_wp2_with fail
    refine (unhide K _).mono ?_
    rintro e w' ⟨rfl, m, rfl⟩
    go_wp2_with fail
    go_quiet (fail)
    go_wp2_with fail
    go_ret3
    exact ⟨rfl, m + nq, by rw [World.drewN_drewN]⟩
  · have e1 : firstM b = ⟨#[]⟩ := by unfold firstM; rw [if_neg c]
    have e2 : firstR b = ⟨#[]⟩ := by unfold firstR; rw [if_neg c]
    have e3 : decide (isWhl b) = false := decide_eq_false c
    rw [e1, e2, e3]
    unfold isWhl at c
    clear e1 e2 e3
    have K := hide key
    clear key
    generalize sizeP b = n at *
    go_enter Tryd.func28, Tryd.ntmps28
    go_wp2_with fail
    refine (unhide K _).mono ?_
    rintro e w' ⟨rfl, m, rfl⟩
    go_wp2_with fail
    go_ret3
    exact ⟨rfl, _, rfl⟩

/-- A feed in memory. -/
def fdr (e l : ByteArray) : Obj := .cells #[.string e, .string l] 56 (0, 0)

theorem fdr_cells {w : World} {R : Nat} {e l : ByteArray} (h : w.heap[R]? = some (fdr e l)) :
    w.cell? ⟨R, 0, none⟩ = some (.string e) ∧ w.cell? ⟨R, 1, none⟩ = some (.string l) ∧ w.frozen? ⟨R, 0, none⟩ = false ∧ w.frozen? ⟨R, 1, none⟩ = false := by
  unfold fdr at h
  refine ⟨?_, ?_, frozen_of_blk h _, frozen_of_blk h _⟩ <;> (rw [cell_of_blk h]; rfl)

set_option maxHeartbeats 400000 in
theorem left_s (R : Nat) (e l : ByteArray) (w : World) (h : w.heap[R]? = some (fdr e l)) (hz : e.size + l.size ≤ 281474976710656) :
    Calls Tryd.prog 24 #[.pointer (some ⟨R, 0, none⟩)] w fun r w' => r = .returned (.int .i64 ((e.size : Int) + l.size)) ∧ ∃ n, w' = w.drewN n := by
  obtain ⟨c0, c1, z0, z1⟩ := fdr_cells h
  clear h
  go_enter Tryd.func24, Tryd.ntmps24
  go_wp2_with fail
  go_quiet (fail)
  go_wp2_with fail
  go_ret
  exact ⟨rfl, _, rfl⟩

/-- No message can be whole yet. -/
def waitsP (e l : ByteArray) : Prop := l.size < 256 ∧ e.size + l.size < sizeP e

instance (e l : ByteArray) : Decidable (waitsP e l) := by unfold waitsP; exact inferInstance

set_option maxHeartbeats 1000000 in
theorem waits_s (R : Nat) (e l : ByteArray) (w : World) (h : w.heap[R]? = some (fdr e l)) (hz : e.size + l.size ≤ 281474976710656) :
    Calls Tryd.prog 27 #[.pointer (some ⟨R, 0, none⟩)] w fun r w' => r = .returned (.bool (decide (waitsP e l))) ∧ ∃ n, w' = w.drewN n := by
  have kl := fun W (h : W.heap[R]? = some (fdr e l)) => left_s R e l W h hz
  have ks := fun W => size_s e W (by omega)
  obtain ⟨c0, c1, z0, z1⟩ := fdr_cells h
  have hle := size_le e
  by_cases c : l.size < 256
  · have hd : Hid (decide (waitsP e l) = decide (((e.size : Int) + l.size) < (sizeP e : Int))) := by
      show _ = _
      rw [Bool.eq_iff_iff]
      simp only [decide_eq_true_eq]
      unfold waitsP
      omega
    have HK := hide kl
    have HS := hide ks
    have H := hide h
    generalize sizeP e = n at *
    clear kl ks h
    go_enter Tryd.func27, Tryd.ntmps27
    have g1 : decide ((l.size : Int) < 256) = true := decide_eq_true (by omega)
    go_wp2_with fail
    go_quiet (first
      | (go_at_call 24; exact Calls.quiet_of (unhide HK _ (unhide H)))
      | (go_at_call 30; exact Calls.quiet_of (unhide HS _)))
    go_wp2_with fail
    go_ret
    exact ⟨ret_bool (unhide hd).symm, _, rfl⟩
  · have hd : Hid (decide (waitsP e l) = false) := decide_eq_false fun h => c h.1
    clear kl ks h
    go_enter Tryd.func27, Tryd.ntmps27
    have g1 : decide ((l.size : Int) < 256) = false := decide_eq_false (by omega)
    go_wp2_with fail
    go_quiet (fail)
    go_wp2_with fail
    go_ret
    exact ⟨ret_bool (unhide hd).symm, _, rfl⟩

end Go.Proofs.YtdhobdmhnocbgaaDoor
