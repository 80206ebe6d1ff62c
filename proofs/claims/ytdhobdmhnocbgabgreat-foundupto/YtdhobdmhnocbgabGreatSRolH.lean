/-
  Walks over zonekeep: raw numbers, read one after the other; bytes; labels.
-/
/-
  Walks over zonekeep: labels, names.
-/
/-
  Walks over zonekeep: data of a type.
-/
/-
  Walks over zonekeep: where a record is being made.
-/
/-
  Walks over zonekeep: an OPT; lists of records.
-/
/-
  Walks over zonekeep: an OPT record, and that its data are few.
-/
import Derived.Test.YtdhobdmhnocbgabGreatSKeepA
import Derived.Test.YtdhobdmhnocbgabGreatSRefP
namespace Go.Proofs.YtdhobdmhnocbgabGreat
open Go.RowKit Zr

/-- Only blocks of these kinds, from N on, may have turned. -/
structure RFrame (N : Nat) (w w' : World) : Prop where
  os : w'.os = w.os
  tape : w'.tape = w.tape
  output : w'.output = w.output
  size : w.heap.size ≤ w'.heap.size
  low : ∀ k, k < N → k < w.heap.size → w'.heap[k]? = w.heap[k]?
  kind : ∀ (k : Nat) (cs : Array Value) (t : TypeId) (fr : Nat × Nat), w.heap[k]? = some (Obj.cells cs t fr) → t ≠ 5 → t ≠ 9 → t ≠ 45 → w'.heap[k]? = some (Obj.cells cs t fr)

theorem RFrame.refl (N : Nat) (w : World) : RFrame N w w := ⟨rfl, rfl, rfl, Nat.le_refl _, fun _ _ _ => rfl, fun _ _ _ _ h _ _ _ => h⟩
theorem RFrame.trans {N : Nat} {a b c : World} (h : RFrame N a b) (k : RFrame N b c) : RFrame N a c :=
  ⟨k.os.trans h.os, k.tape.trans h.tape, k.output.trans h.output, Nat.le_trans h.size k.size, fun i h1 h2 => (k.low i h1 (Nat.lt_of_lt_of_le h2 h.size)).trans (h.low i h1 h2), fun i cs t fr h1 h2 h3 h4 => k.kind i cs t fr (h.kind i cs t fr h1 h2 h3 h4) h2 h3 h4⟩
theorem RFrame.below {N : Nat} {w w' : World} (h : RFrame N w w') (hN : N ≤ w.heap.size) : Below N w w' := ⟨h.os, h.tape, h.output, h.size, fun k hk => h.low k hk (Nat.lt_of_lt_of_le hk hN)⟩
theorem RFrame.of_below {N : Nat} {w w' : World} (h : Below w.heap.size w w') : RFrame N w w' :=
  ⟨h.os, h.tape, h.output, h.size, fun k _ hk => h.block k hk, fun k _ _ _ hk _ _ _ => (h.block k (blk_lt hk)).trans hk⟩
theorem RFrame.of_grown {N g : Nat} {w w' : World} (h : w.grownBy w' (some g)) (hg : N ≤ g) {cs : Array Value} {t : TypeId} {fr : Nat × Nat} (hk : w.heap[g]? = some (.cells cs t fr)) (ht : t = 5 ∨ t = 9 ∨ t = 45) : RFrame N w w' :=
  ⟨h.os, h.tape, h.output, h.size, fun k h1 h2 => h.block k h2 (fun e => by cases e; omega), fun k cs' t' fr' h1 h2 h3 h4 => (h.block k (blk_lt h1) (fun e => by
    cases e
    rw [hk] at h1
    cases h1
    rcases ht with h | h | h
    · exact h2 h
    · exact h3 h
    · exact h4 h)).trans h1⟩
theorem RFrame.of_none {N : Nat} {w w' : World} (h : w.grownBy w' none) : RFrame N w w' :=
  ⟨h.os, h.tape, h.output, h.size, fun k h1 h2 => h.block k h2 (by simp), fun k _ _ _ h1 _ _ _ => (h.block k (blk_lt h1) (by simp)).trans h1⟩
theorem RFrame.of_append {N : Nat} {w w' : World} {e : TypeId} {size : Nat} {v : Value} {n : Nat} {xs : List Value} (hown : w.ownsRow N e size v n xs) (hg : w.grownBy w' v.ownBlock) (ht : e = 5 ∨ e = 9 ∨ e = 45) : RFrame N w w' := by
  rcases hown.2 with ⟨rfl, _⟩ | ⟨g, cap, cur, rfl, hbg, hgg, _⟩
  · exact RFrame.of_none hg
  · exact RFrame.of_grown hg hbg hgg ht

/-- A row of another kind stays. -/
theorem RFrame.owns {N N' : Nat} {w w' : World} (h : RFrame N w w') {e : TypeId} {size : Nat} {v : Value} {n : Nat} {xs : List Value} (ho : w.ownsRow N' e size v n xs) (h1 : e ≠ 5) (h2 : e ≠ 9) (h3 : e ≠ 45) : w'.ownsRow N' e size v n xs := by
  refine ⟨ho.1, ?_⟩
  rcases ho.2 with hn | ⟨g, cap, cur, rfl, hb, hgg, rest⟩
  · exact .inl hn
  · exact .inr ⟨g, cap, cur, rfl, hb, h.kind g cur e (0, 0) hgg h1 h2 h3, rest⟩

/-- The raw numbers lie below the block N. -/
def RawAt (w : World) (N : Nat) (a : Option Addr) (n : Nat) : Prop := ∀ j, j < n → ∃ b o z, a = some ⟨b, o, none⟩ ∧ b < N ∧ w.cell? ⟨b, o + j, none⟩ = some (.int .i64 z) ∧ -9223372036854775808 ≤ z ∧ z < 9223372036854775808

theorem RawAt.below {w w' : World} {N : Nat} {a : Option Addr} {n : Nat} (h : RawAt w N a n) (hb : Below N w w') : RawAt w' N a n := by
  intro j hj
  obtain ⟨b, o, z, h1, h2, h3, h4⟩ := h j hj
  exact ⟨b, o, z, h1, h2, (hb.cell (p := ⟨b, o + j, none⟩) h2).trans h3, h4⟩

def scells (K : List ByteArray) : List Value := K.map .string

def Ro (w : World) (N R : Nat) (a : Option Addr) (n c : Nat) (K : List ByteArray) : Prop :=
  ∃ (k : Nat) (ak : Option Addr) (ck : Nat), w.heap[R]? = some (.cells #[.slice a n c, .int .i64 k, .slice ak K.length ck] 45 (0, 0)) ∧ N ≤ R ∧ k ≤ n ∧ n ≤ 9223372036854775807 ∧ w.ownsRow N 9 1 (.slice ak K.length ck) K.length (scells K) ∧ RawAt w N a n ∧ (∀ s, s ∈ K → wholeB s = true)

theorem Ro.lt {w : World} {N R : Nat} {a : Option Addr} {n c : Nat} {K : List ByteArray} (h : Ro w N R a n c K) : N ≤ R ∧ R < w.heap.size := by
  obtain ⟨k, ak, ck, h1, h2, _⟩ := h
  exact ⟨h2, blk_lt h1⟩

theorem Ro.below {w w' : World} {N R : Nat} {a : Option Addr} {n c : Nat} {K : List ByteArray} (h : Ro w N R a n c K) (hb : Below w.heap.size w w') : Ro w' N R a n c K := by
  have hl := h.lt
  obtain ⟨k, ak, ck, h1, h2, h3, h4, h5, h6, h7⟩ := h
  exact ⟨k, ak, ck, (hb.block R (blk_lt h1)).trans h1, h2, h3, h4, h5.kept (row := none) ⟨hb.os, hb.tape, hb.output, hb.size, fun i hi _ => hb.block i hi⟩ (by
    cases h : (Value.slice ak K.length ck).ownBlock with
    | none => exact .inl rfl
    | some g => exact .inr (by simp)), h6.below (hb.mono (by omega)), h7⟩

theorem pick_any (c : Int) (n : Nat) (v : Int) (w : World) (h1 : -9223372036854775808 ≤ c) (h2 : c < 9223372036854775808) (hn : 0 < n) (hn2 : n ≤ 4611686018427387904) (hv : v = n) :
    Calls Tryz.prog 36 #[.int .i64 c, .int .i64 v] w fun e w' => (∃ r : Nat, r < n ∧ e = .returned (.int .i64 r)) ∧ w' = w := by
  subst hv
  have hz : ¬ ((n : Int) = 0) := by omega
  have hz1 : ¬ ((n : Int) = -1) := by omega
  have key : ∀ d : Int, 0 ≤ d → ∃ r : Nat, r < n ∧ Int.tmod d n = r := fun d hd => by
    have a1 := Int.tmod_nonneg (n : Int) hd
    have a2 := Int.tmod_lt_of_pos d (show (0 : Int) < n by omega)
    exact ⟨(Int.tmod d n).toNat, by omega, by omega⟩
  by_cases hc : c < 0
  · obtain ⟨r, hr, er⟩ := key (-(c + 1)) (by omega)
    go_enter Tryz.func36, Tryz.ntmps36
    go_wp2_with fail
    go_ret
    exact ⟨⟨r, hr, rfl⟩, rfl⟩
  · obtain ⟨r, hr, er⟩ := key c (by omega)
    go_enter Tryz.func36, Tryz.ntmps36
    go_wp2_with fail
    go_ret
    exact ⟨⟨r, hr, rfl⟩, rfl⟩

/-- What next answers. -/
def Below0 (m : Nat) (e : Ending) : Prop := ∃ r : Nat, r < m ∧ e = .returned (.int .i64 r)

set_option maxRecDepth 100000 in
set_option maxHeartbeats 1000000 in
theorem next_any (N R : Nat) (a : Option Addr) (n c : Nat) (K : List ByteArray) (m : Nat) (v : Int) (w : World) (h : Ro w N R a n c K) (hm : 0 < m) (hm2 : m ≤ 4611686018427387904) (hv : v = m) :
    Calls Tryz.prog 15 #[.pointer (some ⟨R, 0, none⟩), .int .i64 v] w fun e w' => Below0 m e ∧ Ro w' N R a n c K ∧ w.grownBy w' (some R) := by
  subst hv
  obtain ⟨k, ak, ck, h1, h2, h3, h4, h5, h6, h7⟩ := h
  have H1 := hide h1
  have H5 := hide h5
  have H6 := hide h6
  have H7 := hide h7
  obtain ⟨⟨c0, c1, c2⟩, z0, z1, z2⟩ := cells3 h1
  have hlt := blk_lt h1
  by_cases ck' : k < n
  · obtain ⟨b, o, z, rfl, hb, hc, z3, z4⟩ := h6 k ck'
    have hne : b ≠ R := by omega
    have key := fun W => pick_any z m m W z3 z4 hm hm2 rfl
    have Key := hide key
    clear key h1 h5 h6 h7
    go_enter Tryz.func15, Tryz.ntmps15
    go_wp2_with fail
    go_quiet (fail)
    go_wp2_with fail
    go_quiet (fail)
    go_wp2_with fail
    refine (unhide Key _).mono ?_
    rintro e w' ⟨⟨r, hr, rfl⟩, rfl⟩
    go_wp2_with fail
    go_ret
    refine ⟨⟨r, hr, rfl⟩, ⟨k + 1, ak, ck, ?_, h2, by omega, h4, ?_, ?_, unhide H7⟩, ?_⟩
    · rw [show ((k + 1 : Nat) : Int) = (k : Int) + 1 by omega]
      exact (blk_set (unhide H1) 1 _).trans rfl
    · exact owns_set_kind (unhide H5) (unhide H1) (by decide) 1 _
    · refine (unhide H6).below (Below.setCell ?_ h2 _)
      exact ⟨rfl, rfl, rfl, Nat.le_refl _, fun _ _ => rfl⟩
    · refine grown_trans ?_ (grown_set _ R 1 _)
      exact ⟨rfl, rfl, rfl, Nat.le_refl _, fun _ _ _ => rfl⟩
  · have key := fun W => pick_any 0 m m W (by omega) (by omega) hm hm2 rfl
    have Key := hide key
    clear key h1 h5 h6 h7
    go_enter Tryz.func15, Tryz.ntmps15
    go_wp2_with fail
    go_quiet (fail)
    go_wp2_with fail
    refine (unhide Key _).mono ?_
    rintro e w' ⟨⟨r, hr, rfl⟩, rfl⟩
    go_wp2_with fail
    go_ret
    refine ⟨⟨r, hr, rfl⟩, ⟨k, ak, ck, unhide H1, h2, h3, h4, unhide H5, unhide H6, unhide H7⟩, grown_drewN _ _ _⟩

theorem Ro.next {w w' : World} {N R : Nat} {a : Option Addr} {n c : Nat} {K : List ByteArray} (h : Ro w N R a n c K) (hg : w.grownBy w' (some R)) : RFrame N w w' := by
  obtain ⟨k, ak, ck, h1, h2, _⟩ := h
  exact RFrame.of_grown hg h2 h1 (.inr (.inr rfl))

/-- A row of another kind than the rolls stays where only these turn. -/
theorem Ro.other {w w' : World} {N R : Nat} {a : Option Addr} {n c : Nat} {K : List ByteArray} (h : Ro w N R a n c K) (hg : w.grownBy w' (some R)) {N' : Nat} {e : TypeId} {size : Nat} {v : Value} {m : Nat} {xs : List Value} (ho : w.ownsRow N' e size v m xs) (hne : e ≠ 45) : w'.ownsRow N' e size v m xs := by
  obtain ⟨k, ak, ck, h1, _⟩ := h
  refine ho.kept hg ?_
  rcases ho.2 with ⟨rfl, _⟩ | ⟨g, cap, cur, rfl, hbg, hgg, _⟩
  · exact .inl rfl
  · refine .inr (fun he => ?_)
    simp only [Value.ownBlock, Option.some.injEq] at he
    subst he
    rw [hgg] at h1
    cases h1
    exact hne rfl

theorem byteCells_one (x : UInt8) : byteCells ⟨#[x]⟩ = [.int .u8 x.toNat] := rfl

theorem push_size (B : ByteArray) (x : UInt8) : (B ++ ⟨#[x]⟩).size = B.size + 1 := by rw [ByteArray.size_append]; rfl

theorem cell_one_new (w : World) (x0 : Value) (t : TypeId) (B : Nat) (hB : B = w.heap.size) : ∀ j u, [x0][j]? = some u → (w.alloc (.cells #[x0] t)).cell? ((⟨B, 0, none⟩ : Addr).add j) = some u := by
  subst hB
  exact World.news_of_block (cs := #[x0]) (heap_alloc_new w _)

theorem Ro.frame {w w' : World} {N R : Nat} {a : Option Addr} {n c : Nat} {K : List ByteArray} (h : Ro w N R a n c K) {e : TypeId} {size : Nat} {v : Value} {m : Nat} {xs : List Value} (hown : w.ownsRow N e size v m xs) (hg : w.grownBy w' v.ownBlock) (h1 : e ≠ 9) (h2 : e ≠ 45) : Ro w' N R a n c K := by
  obtain ⟨k, ak, ck, g1, g2, g3, g4, g5, g6, g7⟩ := h
  refine ⟨k, ak, ck, blk_kind hown hg g1 h2, g2, g3, g4, owns_kind hown hg g5 h1, g6.below ?_, g7⟩
  refine ⟨hg.os, hg.tape, hg.output, hg.size, fun i hi => hg.block i (by have := blk_lt g1; omega) (fun e => ?_)⟩
  rcases hown.2 with ⟨rfl, _⟩ | ⟨g, cap, cur, rfl, hbg, hgg, _⟩
  · simp [Value.ownBlock] at e
  · simp only [Value.ownBlock, Option.some.injEq] at e
    omega

/-- What bytes answers. -/
def StrOf (m : Nat) (e : Ending) : Prop := ∃ s : ByteArray, s.size = m ∧ e = .returned (.string s)

set_option maxRecDepth 100000 in
set_option maxHeartbeats 1000000 in
theorem bytes_any (N R : Nat) (a : Option Addr) (n c : Nat) (K : List ByteArray) (m : Nat) (v : Int) (w : World) (h : Ro w N R a n c K) (hm2 : m ≤ 100000) (hv : v = m) :
    Calls Tryz.prog 41 #[.pointer (some ⟨R, 0, none⟩), .int .i64 v] w fun e w' => StrOf m e ∧ Ro w' N R a n c K ∧ RFrame N w w' := by
  subst hv
  have H := hide h
  have hl := h.lt
  obtain ⟨i0, hi, hz0, hz1, hz2⟩ := info_parts Tryz.info5
  have Hi := hide hi
  have Hz0 := hide hz0
  have Hz1 := hide hz1
  have Hz2 := hide hz2
  clear hi hz0 hz1 hz2 h
  go_enter Tryz.func41, Tryz.ntmps41
  go_wp2_with fail
  go_loopg [5, 6] (m + 1) (fun g vb vi w' => ∃ (j : Nat) (B : ByteArray) (ab : Option Addr) (cb : Nat), vi = .int .i64 j ∧ j ≤ m ∧ g = m + 1 - j ∧ vb = .slice ab j cb ∧ Hid (B.size = j) ∧ Hid (w'.ownsRow N 5 1 (.slice ab j cb) j (byteCells B)) ∧ Hid (Ro w' N R a n c K) ∧ Hid (RFrame N w w') ∧ N ≤ w'.heap.size)
  case atStart => exact ⟨0, ⟨#[]⟩, none, 0, rfl, Nat.zero_le _, rfl, rfl, hide rfl, hide (World.ownsRow_nil _ _ _ _), H, hide (RFrame.refl _ _), by omega⟩
  case round =>
    obtain ⟨j, B, ab, cb, rfl, hj, rfl, rfl, hBj, HO, HR, HF, hN⟩ := hrel
    by_cases cj : j < m
    · have key := next_any N R a n c K 256 256 _ (unhide HR) (by omega) (by omega) rfl
      have Key := hide key
      clear key
      go_wp2_with fail
      refine (unhide Key).mono ?_
      rintro e w1 ⟨⟨r, hr, rfl⟩, hR1, hg1⟩
      have hO1 := (unhide HR).other hg1 (unhide HO) (by decide)
      have hF1 := (unhide HF).trans ((unhide HR).next hg1)
      have hN1 : N ≤ w1.heap.size := by have := hg1.size; omega
      have HO1 := hide hO1
      have HR1 := hide hR1
      have HF1 := hide hF1
      clear hO1 hR1 hF1 hg1 HO HR HF Key
      go_wp2_with (at_builtin; refine wpList_append_row _ rfl _ _ 70 70 rfl N 5 i0 (.int .u8 0) 1 1 Tryz.underlying70 (unhide Hi) (unhide Hz0) (unhide Hz1) (unhide Hz2) rfl (.slice ab j cb) j (byteCells B) (by rfl) ((unhide HO1).alloc _) (.slice (some ⟨w1.heap.size, 0, none⟩) 1 1) 1 [.int .u8 (r : Nat)] (by rfl) (Src.ofSlice _ Tryz.underlying70 ⟨w1.heap.size, 0, none⟩ 1 1 _ rfl (cell_one_new _ _ _ _ rfl) (fun x hx => by simp at hx; rcases hx with rfl <;> rfl)) (by unfold maxLen; omega) (by omega) (by simp; omega) ?_; intro a1 e1 w2 hown2 hgrow2 hat2)
      go_roundg (m + 1 - (j + 1))
      case measure => omega
      case rel =>
        have hA := (Below.refl w1.heap.size w1).alloc (Nat.le_refl _) (.cells #[.int .u8 (r : Nat)] 5)
        have hx : [Value.int .u8 (r : Nat)] = byteCells ⟨#[UInt8.ofNat r]⟩ := by
          rw [byteCells_one, UInt8.toNat_ofNat_of_lt' (by simpa using hr)]
        refine ⟨j + 1, B ++ ⟨#[UInt8.ofNat r]⟩, a1, e1, by go_num, by omega, rfl, rfl, hide (by rw [push_size, unhide hBj]), ?_, ?_, ?_, ?_⟩
        · rw [byteCells_append, ← hx]; exact hide hown2
        · exact ((unhide HR1).below hA).frame ((unhide HO1).alloc _) hgrow2 (by decide) (by decide)
        · exact ((unhide HF1).trans (RFrame.of_below hA)).trans (RFrame.of_append ((unhide HO1).alloc _) hgrow2 (.inl rfl))
        · have := hgrow2.size; have := hA.size; omega
    · have ej : j = m := by omega
      subst ej
      have ho := unhide HO
      have eB := unhide hBj
      rw [← eB] at ho
      go_wp2_with fail
      rw [← eB]
      rw [run_bytes_row _ 70 9 5 Tryz.underlying70 Tryz.underlying5 Tryz.underlying9 N _ B ho]
      clear ho
      go_wp2_with fail
      go_ret
      exact ⟨⟨B, eB, rfl⟩, unhide HR, unhide HF⟩

end Go.Proofs.YtdhobdmhnocbgabGreat

namespace Go.Proofs.YtdhobdmhnocbgabGreat
open Go.RowKit Zr

/-- What label answers. -/
def LabOf (e : Ending) : Prop := ∃ x : ByteArray, 1 ≤ bt x 0 ∧ bt x 0 ≤ 63 ∧ x.size = 1 + bt x 0 ∧ e = .returned (.string x)

theorem whole_push (x s : ByteArray) (h1 : 1 ≤ bt x 0) (h2 : bt x 0 ≤ 63) (h3 : x.size = 1 + bt x 0) (hs : wholeB s = true) (h : x.size + s.size ≤ 255) : wholeB (x ++ s) = true := by
  obtain ⟨t1, t2⟩ := tl_ok hs
  refine (whole_iff _).2 ⟨?_, by rw [ByteArray.size_append]; omega⟩
  have e : bt (x ++ s) 0 = bt x 0 := by rw [bt_append, if_pos (by omega)]
  refine .lab 0 (by omega) (by omega) ?_
  rw [e]
  have := t1.shift x
  rwa [Nat.add_zero, h3, ← Nat.zero_add 1] at this

/-- What name answers. -/
def NameOf (w : World) (N R : Nat) (a : Option Addr) (n c : Nat) (K : List ByteArray) (e : Ending) (w' : World) : Prop := ∃ s : ByteArray, wholeB s = true ∧ e = .returned (.string s) ∧ Ro w' N R a n c (K ++ [s]) ∧ RFrame N w w'

end Go.Proofs.YtdhobdmhnocbgabGreat

namespace Go.Proofs.YtdhobdmhnocbgabGreat
open Go.RowKit Zr

theorem num1 (b : ByteArray) (i : Nat) : num b i 1 = bt b i := by simp only [num]; rw [Nat.add_zero]; omega
/-- A piece more at the end of a row. -/
theorem row_push (s x : ByteArray) (q : Nat) (hq : q < 256) (hx : x.size = q) : ∀ (f k : Nat), s.size < k + f → k ≤ s.size → rowF s 0 1 f k = true → rowF (s ++ (⟨#[UInt8.ofNat q]⟩ ++ x)) 0 1 (f + 1) k = true := by
  have hz : (s ++ ((⟨#[UInt8.ofNat q]⟩ : ByteArray) ++ x)).size = s.size + 1 + q := by
    rw [ByteArray.size_append, ByteArray.size_append, hx]; show s.size + (1 + q) = _; omega
  have hb : bt (s ++ ((⟨#[UInt8.ofNat q]⟩ : ByteArray) ++ x)) s.size = q := by
    rw [bt_append, if_neg (by omega), Nat.sub_self, bt_append, if_pos (show 0 < (⟨#[UInt8.ofNat q]⟩ : ByteArray).size by show 0 < 1; omega)]
    show (UInt8.ofNat q).toNat = q
    rw [UInt8.toNat_ofNat_of_lt' (show q < 256 by omega)]
  intro f
  induction f with
  | zero => intro k h1 h2; omega
  | succ f ih =>
    intro k h1 h2 h
    rw [rowF] at h ⊢
    simp only [Nat.add_zero] at h ⊢
    by_cases c : s.size ≤ k
    · have e : k = s.size := by omega
      subst e
      rw [if_neg (by omega), if_neg (by omega), if_neg (by omega), num1, hb, if_neg (by omega)]
      cases f with
      | zero => rw [rowF, if_pos (by omega)]
      | succ f => rw [rowF, if_pos (by omega)]
    · rw [if_neg c] at h
      have e : num (s ++ (⟨#[UInt8.ofNat q]⟩ ++ x)) k 1 = num s k 1 := by rw [num1, num1, bt_append, if_pos (by omega)]
      rw [if_neg (by omega), if_neg (by omega), if_neg (by omega), e]
      rw [if_neg (by omega), if_neg (by omega)] at h
      by_cases c2 : s.size < k + 1 + num s k 1
      · rw [if_pos c2] at h; simp at h
      · rw [if_neg c2] at h
        rw [if_neg (by omega)]
        exact ih _ (by omega) (by omega) h

theorem rowB_push (s x : ByteArray) (q : Nat) (hq : q < 256) (hx : x.size = q) (h : rowB s 0 1 = true) : rowB (s ++ ⟨#[UInt8.ofNat q]⟩ ++ x) 0 1 = true := by
  unfold rowB at h ⊢
  rw [append_assoc']
  have h1 := row_push s x q hq hx (s.size + 1) 0 (by omega) (by omega) h
  have hz : (s ++ ((⟨#[UInt8.ofNat q]⟩ : ByteArray) ++ x)).size = s.size + 1 + q := by
    rw [ByteArray.size_append, ByteArray.size_append, hx]; show s.size + (1 + q) = _; omega
  have h2 := row_push s x q hq hx (s.size + 1 + q) 0 (by omega) (by omega) (by rw [rowF_fuel s 0 1 (by omega) _ (s.size + 1) 0 (by omega) (by omega)]; exact h)
  rw [hz]
  exact h2

/-- What data answer. -/
def DataOf (w : World) (N R : Nat) (a : Option Addr) (n c : Nat) (K : List ByteArray) (t : Nat) (e : Ending) (w' : World) : Prop :=
  ∃ (d : ByteArray) (K' : List ByteArray), wellD t d ∧ e = .returned (.string d) ∧ Ro w' N R a n c K' ∧ K'.length ≤ K.length + 2 ∧ RFrame N w w'

end Go.Proofs.YtdhobdmhnocbgabGreat

namespace Go.Proofs.YtdhobdmhnocbgabGreat
open Go.RowKit Zr

/-- Where a record is being made: its block behind the result's, the rolls, what was there before. -/
structure RecAt (w0 : World) (N R : Nat) (a : Option Addr) (n c : Nat) (K : List ByteArray) (P : Nat) (ps cs : Array Value) (w : World) : Prop where
  ro : Ro w N R a n c K
  pa : w.heap[P]? = some (.cells ps 33 (0, 0))
  xa : w.heap[P + 1]? = some (.cells cs 33 (0, 0))
  fr : RFrame N w0 w
  old : w0.heap.size ≤ P
  low : N ≤ P

theorem Ro.set {w : World} {N R : Nat} {a : Option Addr} {n c : Nat} {K : List ByteArray} (h : Ro w N R a n c K) {X : Nat} {cs : Array Value} {t : TypeId} (hX : w.heap[X]? = some (.cells cs t (0, 0))) (h1 : 9 ≠ t) (h2 : 45 ≠ t) (hN : N ≤ X) (j : Nat) (v : Value) : Ro (w.setCell ⟨X, j, none⟩ v) N R a n c K := by
  obtain ⟨k, ak, ck, g1, g2, g3, g4, g5, g6, g7⟩ := h
  have hne : R ≠ X := fun e => by
    subst e
    rw [g1] at hX
    cases hX
    exact h2 rfl
  refine ⟨k, ak, ck, (blk_set_other hne _ _).trans g1, g2, g3, g4, owns_set_kind g5 hX h1 j v, g6.below ?_, g7⟩
  exact Below.setCell (Below.refl _ _) hN _

theorem RFrame.set {N : Nat} {w0 w : World} (h : RFrame N w0 w) {X : Nat} (hX : w0.heap.size ≤ X) (j : Nat) (v : Value) : RFrame N w0 (w.setCell ⟨X, j, none⟩ v) :=
  ⟨h.os, h.tape, h.output, by rw [size_set]; exact h.size, fun k h1 h2 => (blk_set_other (by omega) _ _).trans (h.low k h1 h2), fun k cs t fr h1 h2 h3 h4 => (blk_set_other (by have := blk_lt h1; omega) _ _).trans (h.kind k cs t fr h1 h2 h3 h4)⟩

theorem RecAt.call {w0 w w1 : World} {N R : Nat} {a : Option Addr} {n c : Nat} {K K' : List ByteArray} {P : Nat} {ps cs : Array Value} (h : RecAt w0 N R a n c K P ps cs w) (hr : Ro w1 N R a n c K') (hf : RFrame N w w1) : RecAt w0 N R a n c K' P ps cs w1 :=
  ⟨hr, hf.kind _ _ _ _ h.pa (by decide) (by decide) (by decide), hf.kind _ _ _ _ h.xa (by decide) (by decide) (by decide), h.fr.trans hf, h.old, h.low⟩
theorem RecAt.set {w0 w : World} {N R : Nat} {a : Option Addr} {n c : Nat} {K : List ByteArray} {P : Nat} {ps cs : Array Value} (h : RecAt w0 N R a n c K P ps cs w) (o : Nat) (v : Value) : RecAt w0 N R a n c K P ps (cs.setIfInBounds o v) (w.setCell ⟨P + 1, o, none⟩ v) :=
  ⟨h.ro.set h.xa (by decide) (by decide) (by have := h.low; omega) o v, (blk_set_other (by omega) _ _).trans h.pa, blk_set h.xa o v, h.fr.set (by have := h.old; omega) o v, h.old, h.low⟩
theorem RecAt.alloc {w0 w : World} {N R : Nat} {a : Option Addr} {n c : Nat} {K : List ByteArray} {P : Nat} {ps cs : Array Value} (h : RecAt w0 N R a n c K P ps cs w) (O : Obj) : RecAt w0 N R a n c K P ps cs (w.alloc O) :=
  have hA := (Below.refl w.heap.size w).alloc (Nat.le_refl _) O
  ⟨h.ro.below hA, (hA.block _ (blk_lt h.pa)).trans h.pa, (hA.block _ (blk_lt h.xa)).trans h.xa, h.fr.trans (RFrame.of_below hA), h.old, h.low⟩

/-- What record answers. -/
def RecOf (w : World) (N R : Nat) (a : Option Addr) (n c : Nat) (K : List ByteArray) (opt : Bool) (e : Ending) (w' : World) : Prop :=
  ∃ (x : RI) (K' : List ByteArray), recOk x ∧ (if opt then x.ty = 41 ∧ x.name = ⟨#[0]⟩ else x.ty ≠ 41) ∧ e = .returned (.agg #[.string x.name, .int .i64 x.ty, .int .i64 x.cl, .int .i64 x.ttl, .string x.data]) ∧ Ro w' N R a n c K' ∧ K'.length ≤ K.length + 3 ∧ RFrame N w w'

theorem eight (k : Nat) (h : k < 8) : ∃ ty : Nat, (#[.int .i64 1, .int .i64 2, .int .i64 5, .int .i64 6, .int .i64 12, .int .i64 16, .int .i64 28, .int .i64 33] : Array Value)[k]? = some (.int .i64 (ty : Nat)) ∧ ty ≤ 33 := by
  match k, h with
  | 0, _ => exact ⟨1, rfl, by omega⟩
  | 1, _ => exact ⟨2, rfl, by omega⟩
  | 2, _ => exact ⟨5, rfl, by omega⟩
  | 3, _ => exact ⟨6, rfl, by omega⟩
  | 4, _ => exact ⟨12, rfl, by omega⟩
  | 5, _ => exact ⟨16, rfl, by omega⟩
  | 6, _ => exact ⟨28, rfl, by omega⟩
  | 7, _ => exact ⟨33, rfl, by omega⟩

end Go.Proofs.YtdhobdmhnocbgabGreat

namespace Go.Proofs.YtdhobdmhnocbgabGreat
open Go.RowKit Zr

end Go.Proofs.YtdhobdmhnocbgabGreat

namespace Go.Proofs.YtdhobdmhnocbgabGreat
open Go.RowKit Zr

/-- What data of an OPT answer. -/
def DataFew (w : World) (N R : Nat) (a : Option Addr) (n c : Nat) (K : List ByteArray) (e : Ending) (w' : World) : Prop :=
  ∃ (d : ByteArray) (K' : List ByteArray), wellD 41 d ∧ d.size ≤ 600 ∧ e = .returned (.string d) ∧ Ro w' N R a n c K' ∧ K'.length ≤ K.length + 2 ∧ RFrame N w w'

/-- What opt answers. -/
def OptFew (w : World) (N R : Nat) (a : Option Addr) (n c : Nat) (K : List ByteArray) (e : Ending) (w' : World) : Prop :=
  ∃ (x : RI) (K' : List ByteArray), recOk x ∧ x.ty = 41 ∧ x.name = ⟨#[0]⟩ ∧ x.data.size ≤ 600 ∧ e = .returned (.agg #[.string x.name, .int .i64 x.ty, .int .i64 x.cl, .int .i64 x.ttl, .string x.data]) ∧ Ro w' N R a n c K' ∧ K'.length ≤ K.length + 3 ∧ RFrame N w w'

end Go.Proofs.YtdhobdmhnocbgabGreat
