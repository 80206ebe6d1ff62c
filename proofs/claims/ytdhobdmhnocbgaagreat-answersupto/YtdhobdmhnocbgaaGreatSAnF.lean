/-
  Plain: an answer: small letters, names within a name, the sets that are wanted, the message.
-/
/-
  Walks: small letters; a name within another.
-/
/-
  Walks: the search: its memory; of, add, want.
-/
/-
  Walks: the search: add, want.
-/
/-
  Walks: the search: has, hasSet, answers, services, target, isHost.
-/
/-
  Walks: the search: wantAll, wantAnswers.
-/
/-
  Walks: the search: wantHosts, run.
-/
import Derived.Test.YtdhobdmhnocbgaaGreatSMwO
import Derived.Test.YtdhobdmhnocbgaaGreatSKeepA
namespace Go.Proofs.YtdhobdmhnocbgaaGreat
open Go.RowKit Zr

/-- A byte with a small letter. -/
def lowC (c : Nat) : Nat := if 65 ≤ c ∧ c ≤ 90 then c + 32 else c
def smallTo (s : ByteArray) : Nat → ByteArray
  | 0 => ⟨#[]⟩
  | j + 1 => smallTo s j ++ one (lowC (bt s j))
def smallP (s : ByteArray) : ByteArray := smallTo s s.size

theorem lowC_lt {c : Nat} (h : c < 256) : lowC c < 256 := by unfold lowC; split <;> omega
theorem smallTo_size (s : ByteArray) : ∀ j, (smallTo s j).size = j
  | 0 => rfl
  | j + 1 => by unfold smallTo; rw [ByteArray.size_append, smallTo_size s j]; rfl
theorem smallP_size (s : ByteArray) : (smallP s).size = s.size := smallTo_size s s.size

/-- Does the other name stand in the name, from a label on, at or behind an offset? -/
def withinAt (n o : ByteArray) (i : Nat) : Bool :=
  if _h : i < n.size then (if n.extract i n.size = o then true else withinAt n o (i + 1 + bt n i)) else false
termination_by n.size - i

/-- A set: its part, its type, its records. -/
structure ST where
  part : Nat
  kind : Int
  l : List RI

def ofP (z : List RI) (n : ByteArray) (t : Int) : List RI := z.filter fun x => decide (x.name = n ∧ x.ty = t)
def wantP (z : List RI) (S : List ST) (p : Nat) (n : ByteArray) (t : Int) : List ST := if ofP z n t = [] then S else S ++ [⟨p, t, ofP z n t⟩]
def hasSetP (S : List ST) (t : Int) : Bool := S.any fun s => decide (s.kind = t)
def hasP (z : List RI) (n : ByteArray) : Bool := z.any fun x => withinAt x.name n 0
def wantTo (z : List RI) (n : ByteArray) (S : List ST) : Nat → List ST
  | 0 => S
  | i + 1 => match z[i]? with
    | none => wantTo z n S i
    | some x => if x.name = n ∧ hasSetP (wantTo z n S i) x.ty = false then wantP z (wantTo z n S i) 0 n x.ty else wantTo z n S i
def aimP (z : List RI) (n : ByteArray) : ByteArray := match ofP z n 5 with
  | [] => n
  | x :: _ => x.data
def answP (z : List RI) (S : List ST) (n : ByteArray) (t : Int) : List ST :=
  if t = 255 then wantTo z n S z.length else if t = 5 then wantP z S 0 n 5 else wantP z (wantP z S 0 n 5) 0 (aimP z n) t
def answersP (S : List ST) (t : Int) : Bool := if t = 255 then decide (0 < S.length) else hasSetP S t
def isHostP (node : ByteArray) (x : RI) : Bool := decide (x.name = node ∧ (x.ty = 1 ∨ x.ty = 28))
def seekP (z : List RI) (node : ByteArray) (i : Nat) : Nat := i + ((z.drop i).takeWhile fun x => !isHostP node x).length
def targetP (d : ByteArray) : ByteArray := if d.size < 6 then ⟨#[]⟩ else d.extract 6 d.size
def hostsTo (z sv : List RI) (S : List ST) : Nat → Nat × List ST
  | 0 => (0, S)
  | j + 1 => match sv[j]? with
    | none => hostsTo z sv S j
    | some x => match z[seekP z (targetP x.data) (hostsTo z sv S j).1]? with
      | none => (seekP z (targetP x.data) (hostsTo z sv S j).1, (hostsTo z sv S j).2)
      | some y => (seekP z (targetP x.data) (hostsTo z sv S j).1, (hostsTo z sv S j).2 ++ [⟨2, y.ty, [y]⟩])
def servicesP (S : List ST) : List RI := match S.find? fun s => decide (s.kind = 33) with
  | none => []
  | some s => s.l
def hostsP (z : List RI) (S : List ST) : List ST := (hostsTo z (servicesP S) S (servicesP S).length).2
def soaP (z : List RI) (S : List ST) : List ST := wantP z S 1 originB 6
def mainP (z : List RI) (n : ByteArray) (t : Int) : List ST := if answersP (answP z [] n t) t then answP z [] n t else soaP z (answP z [] n t)
def toldP (z : List RI) (n : ByteArray) : Nat := if hasP z n then 0 else 3
def setsP (z : List RI) (n : ByteArray) (t : Int) : List ST := if hasP z n then hostsP z (mainP z n t) else soaP z []

/-- An answer in the making. -/
structure Rep where
  id : Nat
  fl : Nat
  told : Nat
  q : List QI
  opt : Bool
  sets : List ST
  lim : Nat

def partP (S : List ST) (p : Nat) : List RI := (S.filter fun s => decide (s.part = p)).flatMap ST.l
def optR (told : Nat) : RI := ⟨⟨#[0]⟩, 41, 4096, (told / 16 * 16777216 : Nat), ⟨#[]⟩⟩
def optsP (x : Rep) : List RI := if x.opt then [optR x.told] else []
def flagTo (S : List ST) (c : Nat) (f : Nat) : Nat → Nat
  | 0 => f
  | j + 1 => match S[j]? with
    | none => flagTo S c f j
    | some s => if c ≤ j ∧ s.part ≠ 2 then flagTo S c f j ||| 512 else flagTo S c f j
def repMsg (x : Rep) (c : Nat) : MI := ⟨x.id, (flagTo x.sets c (x.fl ||| x.told % 16) x.sets.length : Nat), x.q, partP (x.sets.take c) 0, partP (x.sets.take c) 1, partP (x.sets.take c) 2 ++ optsP x⟩

/-- The answer with so many sets fits. -/
def Fit (x : Rep) (c : Nat) : Prop := msgOk (repMsg x c) ∧ (writ (repMsg x c).nat).1.size ≤ 65535 ∧ (writ (repMsg x c).nat).1.size ≤ x.lim
/-- How many sets an answer has. -/
def Fitting (x : Rep) (c : Nat) : Prop := c ≤ x.sets.length ∧ (c = 0 ∨ Fit x c) ∧ (c = x.sets.length ∨ ¬ Fit x (c + 1))

def limP (cls : Nat) (stream : Bool) : Nat := if stream then 65535 else if cls < 512 then 512 else if 4096 < cls then 4096 else cls
def optOfP (l : List RI) : Option RI := l.find? fun x => decide (x.ty = 41)
def classP (l : List RI) : Nat := match optOfP l with
  | none => 0
  | some x => x.cl.toNat
def lifeP (l : List RI) : Nat := match optOfP l with
  | none => 0
  | some x => x.ttl.toNat
def refusalP (flags life : Nat) (q : QI) : Nat :=
  if flags &&& 30720 ≠ 0 then 4 else if life / 65536 % 256 ≠ 0 then 16 else if q.cl ≠ 1 ∨ withinAt (smallP q.name) originB 0 = false then 5 else 0

noncomputable def takeP (id fl : Nat) (m : MI) (l : List Ev) (stream : Bool) : Rep :=
  match m.q with
  | [q] =>
    if refusalP m.flags.toNat (lifeP m.x) q = 0 then
      ⟨id, fl ||| 1024, toldP (recordsM l) (smallP q.name), [q], (optOfP m.x).isSome, setsP (recordsM l) (smallP q.name) q.ty, limP (classP m.x) stream⟩
    else ⟨id, fl, refusalP m.flags.toNat (lifeP m.x) q, [q], (optOfP m.x).isSome, [], limP (classP m.x) stream⟩
  | _ => ⟨id, fl, 1, [], (optOfP m.x).isSome, [], limP (classP m.x) stream⟩

noncomputable def repP (l : List Ev) (b : ByteArray) (stream : Bool) : Rep :=
  match parseP b with
  | .error _ => ⟨num b 0 2, 32768 ||| (num b 2 2 &&& 30976), 1, [], false, [], 0⟩
  | .ok m => takeP (num b 0 2) (32768 ||| (num b 2 2 &&& 30976)) m.int l stream

/-- There is no answer. -/
def Mute (b : ByteArray) : Prop := b.size < 12 ∨ 65535 < b.size ∨ 128 ≤ bt b 2

/-- What Respond hands back. -/
def RespIs (l : List Ev) (b : ByteArray) (stream : Bool) (s : ByteArray) : Prop :=
  (Mute b ∧ s = ⟨#[]⟩) ∨ (¬ Mute b ∧ ∃ c e, Fitting (repP l b stream) c ∧ SerIs (repMsg (repP l b stream) c) s e)

end Go.Proofs.YtdhobdmhnocbgaaGreat

namespace Go.Proofs.YtdhobdmhnocbgaaGreat
open Go.RowKit Zr

theorem an_bytes1 (x : UInt8) : byteCells ⟨#[x]⟩ = [.int .u8 x.toNat] := rfl
theorem an_cell1 (w : World) (x0 : Value) (t : TypeId) (B : Nat) (hB : B = w.heap.size) : ∀ j u, [x0][j]? = some u → (w.alloc (.cells #[x0] t)).cell? ((⟨B, 0, none⟩ : Addr).add j) = some u := by
  subst hB
  exact World.news_of_block (cs := #[x0]) (heap_alloc_new w _)
theorem one_cells (n : Nat) (h : n < 256) : byteCells (one n) = [.int .u8 n] := by
  unfold one
  rw [an_bytes1, UInt8.toNat_ofNat_of_lt' (by simpa using h)]

set_option maxRecDepth 100000 in
set_option maxHeartbeats 2000000 in
theorem small_m (s : ByteArray) (w : World) (hs : s.size ≤ 4294967296) :
    Calls Tryz.prog 112 #[.string s] w fun e w' => e = .returned (.string (smallP s)) ∧ Below w.heap.size w w' := by
  obtain ⟨i0, hi, hz0, hz1, hz2⟩ := info_parts Tryz.info5
  have Hi := hide hi
  have Hz0 := hide hz0
  have Hz1 := hide hz1
  have Hz2 := hide hz2
  clear hi hz0 hz1 hz2
  obtain ⟨N, hN⟩ : ∃ N, w.heap.size = N := ⟨_, rfl⟩
  rw [hN]
  go_enter Tryz.func112, Tryz.ntmps112
  go_wp2_with fail
  go_loopg [3, 4] (s.size + 1) (fun g vb vi w' => ∃ (j : Nat) (ab : Option Addr) (cb : Nat), vi = .int .i64 j ∧ j ≤ s.size ∧ g = s.size + 1 - j ∧ vb = .slice ab j cb ∧ Hid (w'.ownsRow N 5 1 (.slice ab j cb) j (byteCells (smallTo s j))) ∧ Hid (Below N w w') ∧ N ≤ w'.heap.size)
  case atStart => exact ⟨0, none, 0, rfl, Nat.zero_le _, rfl, rfl, hide (World.ownsRow_nil _ _ _ _), hide (Below.refl _ _), by omega⟩
  case round =>
    obtain ⟨j, ab, cb, rfl, hj, rfl, rfl, HO, HB, hNw⟩ := hrel
    by_cases cj : j < s.size
    · have hg := bt_get s j cj
      have hlt := bt_lt s j
      have hT : smallTo s (j + 1) = smallTo s j ++ one (lowC (bt s j)) := rfl
      have HT := hide hT
      clear hT
      have hcase : (bt s j < 65 ∧ lowC (bt s j) = bt s j) ∨ (90 < bt s j ∧ lowC (bt s j) = bt s j) ∨ (65 ≤ bt s j ∧ bt s j ≤ 90 ∧ lowC (bt s j) = bt s j + 32) := by
        unfold lowC
        by_cases c1 : bt s j < 65
        · exact .inl ⟨c1, if_neg (by omega)⟩
        · by_cases c2 : 90 < bt s j
          · exact .inr (.inl ⟨c2, if_neg (by omega)⟩)
          · exact .inr (.inr ⟨by omega, by omega, if_pos (by omega)⟩)
      generalize bt s j = c at *
      generalize smallTo s j = B at *
      rcases hcase with ⟨c1, hc⟩ | ⟨c1, hc⟩ | ⟨c1, c2, hc⟩
      all_goals
        rw [hc] at HT
        clear hc
      · go_wp2_with (at_builtin; refine wpList_append_row _ rfl _ _ 96 96 rfl N 5 i0 (.int .u8 0) 1 1 Tryz.underlying96 (unhide Hi) (unhide Hz0) (unhide Hz1) (unhide Hz2) rfl (.slice ab j cb) j (byteCells B) (by rfl) ((unhide HO).alloc _) (.slice (some ⟨wr.heap.size, 0, none⟩) 1 1) 1 [.int .u8 (c : Nat)] (by rfl) (Src.ofSlice _ Tryz.underlying96 ⟨wr.heap.size, 0, none⟩ 1 1 _ rfl (an_cell1 _ _ _ _ rfl) (fun x hx => by simp at hx; rcases hx with rfl <;> rfl)) (by unfold maxLen; omega) (by omega) (by simp; omega) ?_; intro a1 e1 w2 hown2 hgrow2 hat2)
        go_roundg (s.size + 1 - (j + 1))
        case measure => omega
        case rel =>
          refine ⟨j + 1, a1, e1, by go_num, by omega, rfl, rfl, ?_, hide (((unhide HB).alloc hNw _).trans (below_append ((unhide HO).alloc _) hgrow2 (by simp; omega))), ?_⟩
          · rw [unhide HT, byteCells_append, one_cells _ (by omega)]; exact hide hown2
          · have := hgrow2.size; simp at this; omega
      · go_wp2_with (at_builtin; refine wpList_append_row _ rfl _ _ 96 96 rfl N 5 i0 (.int .u8 0) 1 1 Tryz.underlying96 (unhide Hi) (unhide Hz0) (unhide Hz1) (unhide Hz2) rfl (.slice ab j cb) j (byteCells B) (by rfl) ((unhide HO).alloc _) (.slice (some ⟨wr.heap.size, 0, none⟩) 1 1) 1 [.int .u8 (c : Nat)] (by rfl) (Src.ofSlice _ Tryz.underlying96 ⟨wr.heap.size, 0, none⟩ 1 1 _ rfl (an_cell1 _ _ _ _ rfl) (fun x hx => by simp at hx; rcases hx with rfl <;> rfl)) (by unfold maxLen; omega) (by omega) (by simp; omega) ?_; intro a1 e1 w2 hown2 hgrow2 hat2)
        go_roundg (s.size + 1 - (j + 1))
        case measure => omega
        case rel =>
          refine ⟨j + 1, a1, e1, by go_num, by omega, rfl, rfl, ?_, hide (((unhide HB).alloc hNw _).trans (below_append ((unhide HO).alloc _) hgrow2 (by simp; omega))), ?_⟩
          · rw [unhide HT, byteCells_append, one_cells _ (by omega)]; exact hide hown2
          · have := hgrow2.size; simp at this; omega
      · go_wp2_with (at_builtin; refine wpList_append_row _ rfl _ _ 96 96 rfl N 5 i0 (.int .u8 0) 1 1 Tryz.underlying96 (unhide Hi) (unhide Hz0) (unhide Hz1) (unhide Hz2) rfl (.slice ab j cb) j (byteCells B) (by rfl) ((unhide HO).alloc _) (.slice (some ⟨wr.heap.size, 0, none⟩) 1 1) 1 [.int .u8 ((c : Int) + 97 - 65)] (by rfl) (Src.ofSlice _ Tryz.underlying96 ⟨wr.heap.size, 0, none⟩ 1 1 _ rfl (an_cell1 _ _ _ _ rfl) (fun x hx => by simp at hx; rcases hx with rfl <;> rfl)) (by unfold maxLen; omega) (by omega) (by simp; omega) ?_; intro a1 e1 w2 hown2 hgrow2 hat2)
        go_roundg (s.size + 1 - (j + 1))
        case measure => omega
        case rel =>
          refine ⟨j + 1, a1, e1, by go_num, by omega, rfl, rfl, ?_, hide (((unhide HB).alloc hNw _).trans (below_append ((unhide HO).alloc _) hgrow2 (by simp; omega))), ?_⟩
          · have e3 : ((c : Int) + 97 - 65) = ((c + 32 : Nat) : Int) := by omega
            rw [e3] at hown2
            rw [unhide HT, byteCells_append, one_cells _ (by omega)]; exact hide hown2
          · have := hgrow2.size; simp at this; omega
    · have ej : j = s.size := by omega
      subst ej
      have eB : (smallP s).size = s.size := smallP_size s
      have hP : smallTo s s.size = smallP s := rfl
      have ho := unhide HO
      rw [hP, ← eB] at ho
      obtain ⟨B, hB⟩ : ∃ B, smallP s = B := ⟨_, rfl⟩
      rw [hB] at ho eB
      go_wp2_with fail
      rw [← eB]
      rw [run_bytes_row _ 96 9 5 Tryz.underlying96 Tryz.underlying5 Tryz.underlying9 N _ B ho]
      clear ho
      go_wp2_with fail
      go_ret
      exact ⟨by rw [hB]; rfl, unhide HB⟩

set_option maxRecDepth 100000 in
set_option maxHeartbeats 2000000 in
theorem within_m (n o : ByteArray) (w : World) (hs : n.size ≤ 4294967296) :
    Calls Tryz.prog 113 #[.string n, .string o] w fun e w' => e = .returned (.bool (withinAt n o 0)) ∧ w' = w := by
  have HU : Hid (∀ i, i < n.size → withinAt n o i = if n.extract i n.size = o then true else withinAt n o (i + 1 + bt n i)) := fun i hi => by rw [withinAt, dif_pos hi]
  have HE : Hid (∀ i, ¬ i < n.size → withinAt n o i = false) := fun i hi => by rw [withinAt, dif_neg hi]
  obtain ⟨res, hres⟩ : ∃ r, withinAt n o 0 = r := ⟨_, rfl⟩
  rw [hres]
  go_enter Tryz.func113, Tryz.ntmps113
  go_wp2_with fail
  go_loop [5] (fun i => ∃ j : Nat, j ≤ n.size + 256 ∧ i = .int .i64 j ∧ Hid (withinAt n o j = res)) (fun i => n.size + 256 - (intOf i).toNat)
  case atStart => exact ⟨0, Nat.zero_le _, rfl, hide hres⟩
  case round =>
    obtain ⟨j, hj, rfl, HW⟩ := hrel
    by_cases cj : j < n.size
    · have hu := unhide HU j cj
      rw [unhide HW] at hu
      have hg := bt_get n j cj
      have hlt := bt_lt n j
      by_cases ce : n.extract j n.size = o
      · rw [if_pos ce] at hu
        have f1 := strs_eq ce
        clear ce
        subst hu
        go_wp2_with fail
        go_ret
        exact ⟨rfl, rfl⟩
      · rw [if_neg ce] at hu
        have f1 := strs_ne ce
        have HN := hide hu.symm
        clear ce hu hres HW HU HE
        generalize bt n j = c at *
        go_wp2_with fail
        go_round
        case rel => exact ⟨j + 1 + c, by omega, by go_num, HN⟩
        case measure => simp [intOf]; omega
    · have hu := unhide HE j cj
      rw [unhide HW] at hu
      subst hu
      clear HU HE
      go_wp2_with fail
      go_ret
      exact ⟨rfl, rfl⟩

end Go.Proofs.YtdhobdmhnocbgaaGreat

namespace Go.Proofs.YtdhobdmhnocbgaaGreat
open Go.RowKit Zr

theorem Tryz.info149 : (Tryz.prog.info? 149).map (fun i => (i.zero, i.size, i.bytes)) = some (some (.agg #[.int .i64 0, .int .i64 0, .slice none 0 0]), 3, 40) := by kernel_rfl

/-- Only blocks of the search's kinds, from N on, may have turned. -/
structure AFrame (N : Nat) (w w' : World) : Prop where
  os : w'.os = w.os
  tape : w'.tape = w.tape
  output : w'.output = w.output
  size : w.heap.size ≤ w'.heap.size
  low : ∀ k, k < N → k < w.heap.size → w'.heap[k]? = w.heap[k]?
  kind : ∀ (k : Nat) (cs : Array Value) (t : TypeId) (fr : Nat × Nat), w.heap[k]? = some (Obj.cells cs t fr) → t ≠ 149 → t ≠ 145 → w'.heap[k]? = some (Obj.cells cs t fr)

theorem AFrame.refl (N : Nat) (w : World) : AFrame N w w := ⟨rfl, rfl, rfl, Nat.le_refl _, fun _ _ _ => rfl, fun _ _ _ _ h _ _ => h⟩
theorem AFrame.trans {N : Nat} {a b c : World} (h : AFrame N a b) (k : AFrame N b c) : AFrame N a c :=
  ⟨k.os.trans h.os, k.tape.trans h.tape, k.output.trans h.output, Nat.le_trans h.size k.size, fun i h1 h2 => (k.low i h1 (Nat.lt_of_lt_of_le h2 h.size)).trans (h.low i h1 h2), fun i cs t fr h1 h2 h3 => k.kind i cs t fr (h.kind i cs t fr h1 h2 h3) h2 h3⟩
theorem AFrame.below {N : Nat} {w w' : World} (h : AFrame N w w') (hN : N ≤ w.heap.size) : Below N w w' := ⟨h.os, h.tape, h.output, h.size, fun k hk => h.low k hk (Nat.lt_of_lt_of_le hk hN)⟩
theorem AFrame.of_below {N : Nat} {w w' : World} (h : Below w.heap.size w w') : AFrame N w w' :=
  ⟨h.os, h.tape, h.output, h.size, fun k _ hk => h.block k hk, fun k _ _ _ hk _ _ => (h.block k (blk_lt hk)).trans hk⟩
theorem AFrame.of_grown {N g : Nat} {w w' : World} (h : w.grownBy w' (some g)) (hg : N ≤ g) {cs : Array Value} {t : TypeId} {fr : Nat × Nat} (hk : w.heap[g]? = some (.cells cs t fr)) (ht : t = 149 ∨ t = 145) : AFrame N w w' :=
  ⟨h.os, h.tape, h.output, h.size, fun k h1 h2 => h.block k h2 (fun e => by cases e; omega), fun k cs' t' fr' h1 h2 h3 => (h.block k (blk_lt h1) (fun e => by
    cases e
    rw [hk] at h1
    cases h1
    rcases ht with h | h
    · exact h2 h
    · exact h3 h)).trans h1⟩
theorem AFrame.of_none {N : Nat} {w w' : World} (h : w.grownBy w' none) : AFrame N w w' :=
  ⟨h.os, h.tape, h.output, h.size, fun k h1 h2 => h.block k h2 (by simp), fun k _ _ _ h1 _ _ => (h.block k (blk_lt h1) (by simp)).trans h1⟩
theorem AFrame.of_append {N : Nat} {w w' : World} {e : TypeId} {size : Nat} {v : Value} {n : Nat} {xs : List Value} (hown : w.ownsRow N e size v n xs) (hg : w.grownBy w' v.ownBlock) (ht : e = 149 ∨ e = 145) : AFrame N w w' := by
  rcases hown.2 with ⟨rfl, _⟩ | ⟨g, cap, cur, rfl, hbg, hgg, _⟩
  · exact AFrame.of_none hg
  · exact AFrame.of_grown hg hbg hgg ht
theorem AFrame.box {N k : Nat} {w a : World} {cs : Array Value} {t : TypeId} {fr : Nat × Nat} (h : AFrame N w a) (hr : w.heap[k]? = some (.cells cs t fr)) (h1 : t ≠ 149) (h2 : t ≠ 145) : a.heap[k]? = some (.cells cs t fr) :=
  h.kind k _ _ _ hr h1 h2


/-- Records that lie in a block of records. -/
def RecRow (w : World) (a : Option Addr) (l : List RI) : Prop :=
  l ≠ [] → ∃ g o cs, a = some ⟨g, o, none⟩ ∧ w.heap[g]? = some (.cells cs 42 (0, 0)) ∧ ∀ j u, (rcI l)[j]? = some u → cs[o + j]? = some u

theorem RecRow.frame {N : Nat} {w w' : World} {a : Option Addr} {l : List RI} (h : RecRow w a l) (hf : AFrame N w w') : RecRow w' a l := by
  intro hl
  obtain ⟨g, o, cs, h1, h2, h3⟩ := h hl
  exact ⟨g, o, cs, h1, hf.kind g _ _ _ h2 (by decide) (by decide), h3⟩
theorem RecRow.below {w w' : World} {a : Option Addr} {l : List RI} (h : RecRow w a l) (hb : Below w.heap.size w w') : RecRow w' a l := h.frame (AFrame.of_below (N := 0) hb)
theorem RecRow.row {w : World} {a : Option Addr} {l : List RI} (h : RecRow w a l) : RowAt w w.heap.size a (rcI l) := by
  intro hx
  obtain ⟨g, o, cs, h1, h2, h3⟩ := h (fun e => hx (by rw [e]; rfl))
  exact ⟨g, o, h1, blk_lt h2, fun j u hu => (cell_of_blk h2 (o + j)).trans (h3 j u hu)⟩
theorem owns_recRow {w : World} {N : Nat} {a : Option Addr} {c : Nat} {l : List RI} (h : w.ownsRow N 42 5 (.slice a l.length c) l.length (rcI l)) : RecRow w a l ∧ l.length ≤ c := by
  rcases h.2 with ⟨h1, h2⟩ | ⟨g, cap, cur, h1, _, h3, h4, _, h6, h7⟩
  · exact ⟨fun hl => absurd (List.length_eq_zero_iff.1 h2) hl, by omega⟩
  · cases h1
    refine ⟨fun _ => ⟨g, 0, cur, rfl, h3, fun j u hu => ?_⟩, h4⟩
    rw [← h7] at hu
    have hj : j < l.length * 5 := by
      have := (List.getElem?_eq_some_iff.1 hu).1
      rw [List.length_take] at this
      omega
    rw [List.getElem?_take_of_lt hj] at hu
    rw [Nat.zero_add, ← hu]
    simp

/-- Records with short texts. -/
def RSized' (z : List RI) : Prop := ∀ x, x ∈ z → x.name.size ≤ 4294967296 ∧ x.data.size ≤ 4294967296

/-- The cells of sets. -/
def SetRow (w : World) (L : List ST) (xs : List Value) : Prop :=
  xs.length = L.length * 3 ∧ ∀ i (h : i < L.length), ∃ a c, xs[i * 3]? = some (.int .i64 (L[i].part : Nat)) ∧ xs[i * 3 + 1]? = some (.int .i64 L[i].kind) ∧ xs[i * 3 + 2]? = some (.slice a L[i].l.length c) ∧ RecRow w a L[i].l ∧ L[i].l.length ≤ c

theorem SetRow.frame {N : Nat} {w w' : World} {L : List ST} {xs : List Value} (h : SetRow w L xs) (hf : AFrame N w w') : SetRow w' L xs := by
  refine ⟨h.1, fun i hi => ?_⟩
  obtain ⟨a, c, h1, h2, h3, h4, h5⟩ := h.2 i hi
  exact ⟨a, c, h1, h2, h3, h4.frame hf, h5⟩
theorem SetRow.more {w : World} {L : List ST} {xs : List Value} (h : SetRow w L xs) (s : ST) {a : Option Addr} {c : Nat} (hr : RecRow w a s.l) (hc : s.l.length ≤ c) : SetRow w (L ++ [s]) (xs ++ [.int .i64 (s.part : Nat), .int .i64 s.kind, .slice a s.l.length c]) := by
  obtain ⟨h1, h2⟩ := h
  refine ⟨by simp [h1]; omega, fun i hi => ?_⟩
  rcases Nat.lt_or_ge i L.length with k | k
  · obtain ⟨a', c', x1, x2, x3, x4⟩ := h2 i k
    rw [List.getElem_append_left k]
    refine ⟨a', c', ?_, ?_, ?_, x4⟩ <;> rw [List.getElem?_append_left (by omega)] <;> assumption
  · have e : i = L.length := by simp at hi; omega
    subst e
    rw [List.getElem_append_right (Nat.le_refl _)]
    simp only [Nat.sub_self, List.getElem_cons_zero]
    refine ⟨a, c, ?_, ?_, ?_, hr, hc⟩
    · rw [List.getElem?_append_right (by omega), h1, Nat.sub_self]; rfl
    · rw [List.getElem?_append_right (by omega), h1, Nat.add_sub_cancel_left]; rfl
    · rw [List.getElem?_append_right (by omega), h1, Nat.add_sub_cancel_left]; rfl

/-- A search in block S: the zone's records; the sets that are wanted. -/
def Sr (w : World) (N S : Nat) (az : Option Addr) (cz : Nat) (z : List RI) (L : List ST) : Prop :=
  ∃ a c xs, w.heap[S]? = some (.cells #[.slice az z.length cz, .slice a L.length c] 145 (0, 0)) ∧ N ≤ S ∧ w.ownsRow N 149 3 (.slice a L.length c) L.length xs ∧ SetRow w L xs ∧ RecRow w az z

theorem Sr.lt {w : World} {N S : Nat} {az : Option Addr} {cz : Nat} {z : List RI} {L : List ST} (h : Sr w N S az cz z L) : N ≤ S ∧ S < w.heap.size := by
  obtain ⟨a, c, xs, h1, h2, _⟩ := h
  exact ⟨h2, blk_lt h1⟩
theorem Sr.below {w w' : World} {N S : Nat} {az : Option Addr} {cz : Nat} {z : List RI} {L : List ST} (h : Sr w N S az cz z L) (hb : Below w.heap.size w w') : Sr w' N S az cz z L := by
  obtain ⟨a, c, xs, h1, h2, h3, h4, h5⟩ := h
  exact ⟨a, c, xs, (hb.block S (blk_lt h1)).trans h1, h2, owns_below h3 hb, h4.frame (AFrame.of_below (N := 0) hb), h5.below hb⟩

theorem sr_cells {w : World} {S : Nat} {v u : Value} (h : w.heap[S]? = some (.cells #[v, u] 145 (0, 0))) :
    w.cell? ⟨S, 0, none⟩ = some v ∧ w.cell? ⟨S, 1, none⟩ = some u ∧ w.frozen? ⟨S, 0, none⟩ = false ∧ w.frozen? ⟨S, 1, none⟩ = false := by
  refine ⟨?_, ?_, frozen_of_blk h _, frozen_of_blk h _⟩ <;> (rw [cell_of_blk h]; rfl)

theorem ofP_take (z : List RI) (n : ByteArray) (t : Int) (j : Nat) (h : j < z.length) : (z[j].name = n ∧ z[j].ty = t → ofP (z.take (j + 1)) n t = ofP (z.take j) n t ++ [z[j]]) ∧ (¬ (z[j].name = n ∧ z[j].ty = t) → ofP (z.take (j + 1)) n t = ofP (z.take j) n t) := by
  have e : z.take (j + 1) = z.take j ++ [z[j]] := List.take_succ_eq_append_getElem h
  rw [e]
  unfold ofP
  rw [List.filter_append]
  refine ⟨fun hc => ?_, fun hc => ?_⟩
  · rw [List.filter_cons_of_pos (by simpa using hc)]; rfl
  · rw [List.filter_cons_of_neg (by simpa using hc)]; simp
theorem ofP_len (z : List RI) (n : ByteArray) (t : Int) : (ofP z n t).length ≤ z.length := List.length_filter_le _ _

set_option maxRecDepth 100000 in
set_option maxHeartbeats 2000000 in
theorem of_m (N S : Nat) (az : Option Addr) (cz : Nat) (z : List RI) (L : List ST) (n : ByteArray) (t : Int) (w : World) (h : Sr w N S az cz z L) (hl : z.length ≤ 134217728) :
    Calls Tryz.prog 160 #[.pointer (some ⟨S, 0, none⟩), .string n, .int .i64 t] w fun e w' => RecsOut w (ofP z n t) e w' := by
  obtain ⟨i0, hi, hz0, hz1, hz2⟩ := info_parts Tryz.info42
  have Hi := hide hi
  have Hz0 := hide hz0
  have Hz1 := hide hz1
  have Hz2 := hide hz2
  have HS := hide h
  have HT := hide (ofP_take z n t)
  have hLen := ofP_len z n t
  have HLe := hide (fun j => ofP_len (z.take j) n t)
  clear hi hz0 hz1 hz2 h
  obtain ⟨N0, hN0⟩ : ∃ N0, w.heap.size = N0 := ⟨_, rfl⟩
  unfold RecsOut
  rw [hN0]
  go_enter Tryz.func160, Tryz.ntmps160
  go_wp2_with fail
  go_loopg [7, 8] (z.length + 1) (fun g vb vi w' => ∃ (j m : Nat) (ab : Option Addr) (cb : Nat), vi = .int .i64 j ∧ j ≤ z.length ∧ g = z.length + 1 - j ∧ vb = .slice ab m cb ∧ m ≤ j ∧ Hid ((ofP (z.take j) n t).length = m) ∧ Hid (w'.ownsRow N0 42 5 (.slice ab m cb) m (rcI (ofP (z.take j) n t))) ∧ Hid (Below N0 w w') ∧ N0 ≤ w'.heap.size)
  case atStart => exact ⟨0, 0, none, 0, rfl, Nat.zero_le _, rfl, rfl, Nat.le_refl _, hide rfl, hide (World.ownsRow_nil _ _ _ _), hide (Below.refl _ _), by omega⟩
  case round =>
    obtain ⟨j, m, ab, cb, rfl, hj, rfl, rfl, hm, Hm, HO, HB, hNw⟩ := hrel
    have hbW : Below w.heap.size w wr := by rw [hN0]; exact unhide HB
    obtain ⟨a, c, xs, hS, _, _, _, hz⟩ := (unhide HS).below hbW
    obtain ⟨c0, _, f0, _⟩ := sr_cells hS
    have hSl := blk_lt hS
    clear hbW hS
    by_cases cj : j < z.length
    · obtain ⟨b, o, rfl, hb, x0, x1, x2, x3, x4⟩ := row_r hz.row j cj
      obtain ⟨ht1, ht2⟩ := unhide HT j cj
      generalize z[j] = x at *
      obtain ⟨n0, t0, k0, l0, d0⟩ := x
      simp only at x0 x1 x2 x3 x4 ht1 ht2
      clear hz
      by_cases cc : n0 = n ∧ t0 = t
      · have hT2 := ht1 cc
        have f1 := strs_eq cc.1
        have f2 : (t0 == t) = true := by rw [beq_iff_eq]; exact cc.2
        have HT2 := hide hT2
        clear ht1 ht2 cc hT2
        generalize ofP (z.take j) n t = Q at *
        go_wp2_with (at_builtin; refine wpList_append_row _ rfl _ _ 30 30 rfl N0 42 i0 (.agg #[.string ⟨#[]⟩, .int .i64 0, .int .i64 0, .int .i64 0, .string ⟨#[]⟩]) 5 56 Tryz.underlying30 (unhide Hi) (unhide Hz0) (unhide Hz1) (unhide Hz2) rfl (.slice ab m cb) m (rcI Q) (by rfl) ((unhide HO).alloc _) (.slice (some ⟨wr.heap.size, 0, none⟩) 1 1) 1 [.string n0, .int .i64 t0, .int .i64 k0, .int .i64 l0, .string d0] (by rfl) (Src.ofSlice _ Tryz.underlying30 ⟨wr.heap.size, 0, none⟩ 1 1 _ rfl (cell_five_new _ _ _ _ _ _ _ _ rfl) one5) (by unfold maxLen; omega) (by omega) (by simp; omega) ?_; intro a1 e1 w2 hown2 hgrow2 hat2)
        go_roundg (z.length + 1 - (j + 1))
        case measure => omega
        case rel =>
          refine ⟨j + 1, m + 1, a1, e1, by go_num, by omega, rfl, rfl, by omega, hide (by rw [unhide HT2, List.length_append, unhide Hm]; rfl), ?_, hide (((unhide HB).alloc hNw _).trans (below_append ((unhide HO).alloc _) hgrow2 (by simp; omega))), ?_⟩
          · rw [unhide HT2, rcI_more]; exact hide hown2
          · have := hgrow2.size; simp at this; omega
      · have hT2 := ht2 cc
        have hcase : (n0.toList == n.toList) = false ∨ ((n0.toList == n.toList) = true ∧ (t0 == t) = false) := by
          by_cases q : n0 = n
          · exact .inr ⟨strs_eq q, beq_eq_false_iff_ne.2 fun h => cc ⟨q, h⟩⟩
          · exact .inl (strs_ne q)
        have HT2 := hide hT2
        clear ht1 ht2 cc hT2
        rcases hcase with f1 | ⟨f1, f2⟩
        all_goals
          go_wp2_with fail
          go_roundg (z.length + 1 - (j + 1))
          case measure => omega
          case rel => exact ⟨j + 1, m, ab, cb, by go_num, by omega, rfl, rfl, by omega, hide (by rw [unhide HT2]; exact unhide Hm), hide (by rw [unhide HT2]; exact unhide HO), HB, hNw⟩
    · have ej : j = z.length := by omega
      subst ej
      have ho := unhide HO
      have hm2 := unhide Hm
      rw [List.take_length] at ho hm2
      subst hm2
      have HO2 := hide ho
      clear ho HO Hm hz
      go_wp2_with fail
      go_ret
      exact ⟨ab, cb, rfl, unhide HO2, unhide HB⟩


end Go.Proofs.YtdhobdmhnocbgaaGreat

namespace Go.Proofs.YtdhobdmhnocbgaaGreat
open Go.RowKit Zr

theorem one3s {x0 x1 : Int} {a : Option Addr} {n c : Nat} : ∀ v ∈ ([.int .i64 x0, .int .i64 x1, .slice a n c] : List Value), v.oneCell' = true := by
  intro v hv
  simp at hv
  rcases hv with rfl | rfl | rfl <;> rfl

set_option maxRecDepth 100000 in
set_option maxHeartbeats 2000000 in
theorem addSet_m (N S : Nat) (az : Option Addr) (cz : Nat) (z : List RI) (L : List ST) (s : ST) (a : Option Addr) (c : Nat) (w : World) (h : Sr w N S az cz z L) (hr : RecRow w a s.l) (hc : s.l.length ≤ c) (hl : L.length ≤ 134217728) :
    Calls Tryz.prog 161 #[.pointer (some ⟨S, 0, none⟩), .int .i64 (s.part : Nat), .int .i64 s.kind, .slice a s.l.length c] w fun e w' => e = .returned (.tuple #[]) ∧ Sr w' N S az cz z (L ++ [s]) ∧ AFrame N w w' := by
  obtain ⟨aL, cL, xs, hR, hNR, o1, hset, hzone⟩ := h
  have hlt := blk_lt hR
  obtain ⟨_, c0, _, z0⟩ := sr_cells hR
  obtain ⟨i0, hi, hz0, hz1, hz2⟩ := info_parts Tryz.info149
  have Hi := hide hi
  have Hz0 := hide hz0
  have Hz1 := hide hz1
  have Hz2 := hide hz2
  have HR := hide hR
  have O1 := hide o1
  have HSet := hide hset
  have HZone := hide hzone
  have HRec := hide hr
  have HMore := hide (fun (W : World) (h1 : SetRow W L xs) (h2 : RecRow W a s.l) => h1.more s h2 hc)
  clear hi hz0 hz1 hz2 hR o1 hset hzone hr hc
  generalize s.l.length = ns at *
  generalize (s.part : Int) = ps at *
  generalize s.kind = ks at *
  go_enter Tryz.func161, Tryz.ntmps161
  have hNw : N ≤ w.heap.size := by omega
  have hA : Below w.heap.size w (w.alloc (.cells #[.int .i64 ps, .int .i64 ks, .slice a ns c] 149)) := (Below.refl _ _).alloc (Nat.le_refl _) _
  have hRA := (hA.block S hlt).trans (unhide HR)
  have HRA := hide hRA
  have HA := hide hA
  have OA := hide (owns_below (unhide O1) hA)
  clear hA hRA
  go_wp2_with (at_builtin; refine wpList_append_row _ rfl _ _ 74 74 rfl N 149 i0 (.agg #[.int .i64 0, .int .i64 0, .slice none 0 0]) 3 40 Tryz.underlying74 (unhide Hi) (unhide Hz0) (unhide Hz1) (unhide Hz2) rfl (.slice aL L.length cL) L.length xs (by rfl) (unhide OA) (.slice (some ⟨w.heap.size, 0, none⟩) 1 1) 1 [.int .i64 ps, .int .i64 ks, .slice a ns c] (by rfl) (Src.ofSlice _ Tryz.underlying74 ⟨w.heap.size, 0, none⟩ 1 1 _ rfl (cell_three_new _ _ _ _ _ _ rfl) one3s) (by unfold maxLen; omega) (by omega) (by simp; omega) ?_; intro a1 c1 w9 hown9 hgrow9 hat9; have hR9 := blk_kind (unhide OA) hgrow9 (unhide HRA) (by decide); obtain ⟨n9, n0, p9, p0⟩ := sr_cells hR9; have hl9 := blk_lt hR9)
  have hF9 : AFrame N w (w9.setCell ⟨S, 1, none⟩ (.slice a1 (L.length + 1) c1)) :=
    ((AFrame.of_below (unhide HA)).trans (AFrame.of_append (unhide OA) hgrow9 (.inl rfl))).trans (AFrame.of_grown (grown_set w9 S 1 (.slice a1 (L.length + 1) c1)) hNR hR9 (.inr rfl))
  have hw : Sr (w9.setCell ⟨S, 1, none⟩ (.slice a1 (L.length + 1) c1)) N S az cz z (L ++ [s]) := by
    refine ⟨a1, c1, xs ++ [.int .i64 ps, .int .i64 ks, .slice a ns c], ?_, hNR, ?_, ?_, ?_⟩
    · rw [List.length_append]
      exact blk_set hR9 1 _
    · rw [List.length_append]
      exact owns_set_kind hown9 hR9 (by decide) 1 _
    · exact unhide HMore _ ((unhide HSet).frame hF9) ((unhide HRec).frame hF9)
    · exact (unhide HZone).frame hF9
  go_end0
  exact ⟨rfl, hw, hF9⟩

set_option maxRecDepth 100000 in
set_option maxHeartbeats 2000000 in
theorem want_m (N S : Nat) (az : Option Addr) (cz : Nat) (z : List RI) (L : List ST) (p : Nat) (n : ByteArray) (t : Int) (w : World) (h : Sr w N S az cz z L) (hz : z.length ≤ 134217728) (hl : L.length ≤ 134217728) :
    Calls Tryz.prog 142 #[.pointer (some ⟨S, 0, none⟩), .int .i64 (p : Nat), .string n, .int .i64 t] w fun e w' => e = .returned (.tuple #[]) ∧ Sr w' N S az cz z (wantP z L p n t) ∧ AFrame N w w' := by
  have k1 := of_m N S az cz z L n t w h hz
  have K1 := hide k1
  have HS := hide h
  have HW : Hid ((ofP z n t = [] → wantP z L p n t = L) ∧ (¬ ofP z n t = [] → wantP z L p n t = L ++ [⟨p, t, ofP z n t⟩])) := ⟨fun h => by unfold wantP; rw [if_pos h], fun h => by unfold wantP; rw [if_neg h]⟩
  have hlen := ofP_len z n t
  clear k1 h
  generalize wantP z L p n t = R at *
  generalize ofP z n t = Q at *
  go_enter Tryz.func142, Tryz.ntmps142
  go_wp2_with fail
  refine (unhide K1).mono ?_
  rintro e w1 ⟨a, c, rfl, o1, b1⟩
  obtain ⟨hr, hc⟩ := owns_recRow o1
  have HS1 := hide ((unhide HS).below b1)
  have HF1 := hide (AFrame.of_below (N := N) b1)
  have HRec := hide hr
  clear o1 b1 hr K1 HS
  by_cases cq : Q = []
  · have hR := (unhide HW).1 cq
    subst hR
    subst cq
    go_wp2_with fail
    go_end0
    exact ⟨rfl, unhide HS1, unhide HF1⟩
  · have hR := (unhide HW).2 cq
    have hq : 0 < Q.length := List.length_pos_iff.2 cq
    have HR := hide hR
    have ka := addSet_m N S az cz z L ⟨p, t, Q⟩ a c w1 (unhide HS1) (unhide HRec) hc hl
    have KA := hide ka
    clear hR cq ka HW
    go_wp2_with fail
    refine (unhide KA).mono ?_
    rintro e w2 ⟨rfl, hS2, hF2⟩
    have HS2 := hide hS2
    have HF2 := hide ((unhide HF1).trans hF2)
    clear hS2 hF2
    go_wp2_with fail
    go_end0
    exact ⟨rfl, by rw [unhide HR]; exact unhide HS2, unhide HF2⟩

end Go.Proofs.YtdhobdmhnocbgaaGreat

namespace Go.Proofs.YtdhobdmhnocbgaaGreat
open Go.RowKit Zr

/-- What stands in a search. -/
theorem Sr.get {w : World} {N S : Nat} {az : Option Addr} {cz : Nat} {z : List RI} {L : List ST} (h : Sr w N S az cz z L) :
    ∃ a c, w.cell? ⟨S, 0, none⟩ = some (.slice az z.length cz) ∧ w.cell? ⟨S, 1, none⟩ = some (.slice a L.length c) ∧ w.frozen? ⟨S, 0, none⟩ = false ∧ w.frozen? ⟨S, 1, none⟩ = false ∧ RecRow w az z ∧
      ∀ i (_ : i < L.length), ∃ b o a' c', a = some ⟨b, o, none⟩ ∧ b < w.heap.size ∧ w.cell? ⟨b, o + i * 3, none⟩ = some (.int .i64 (L[i].part : Nat)) ∧ w.cell? ⟨b, o + i * 3 + 1, none⟩ = some (.int .i64 L[i].kind) ∧ w.cell? ⟨b, o + i * 3 + 2, none⟩ = some (.slice a' L[i].l.length c') ∧ RecRow w a' L[i].l ∧ L[i].l.length ≤ c' := by
  obtain ⟨a, c, xs, h1, _, h3, h4, h5⟩ := h
  obtain ⟨c0, c1, f0, f1⟩ := sr_cells h1
  refine ⟨a, c, c0, c1, f0, f1, h5, fun i hi => ?_⟩
  obtain ⟨a', c', x1, x2, x3, x4, x5⟩ := h4.2 i hi
  obtain ⟨b, o, e1, e2, e3⟩ := owns_rowAt h3 (fun e => by rw [e] at x1; cases x1)
  exact ⟨b, o, a', c', e1, e2, e3 _ _ x1, e3 _ _ x2, e3 _ _ x3, x4, x5⟩

set_option maxRecDepth 100000 in
set_option maxHeartbeats 2000000 in
theorem hasSet_m (N S : Nat) (az : Option Addr) (cz : Nat) (z : List RI) (L : List ST) (t : Int) (w : World) (h : Sr w N S az cz z L) (hl : L.length ≤ 134217728) :
    Calls Tryz.prog 163 #[.pointer (some ⟨S, 0, none⟩), .int .i64 t] w fun e w' => e = .returned (.bool (hasSetP L t)) ∧ w' = w := by
  have HY : Hid (∀ j (hj : j < L.length), L[j].kind = t → hasSetP L t = true) := fun j hj e => by
    unfold hasSetP
    rw [List.any_eq_true]
    exact ⟨L[j], List.getElem_mem hj, decide_eq_true e⟩
  have HNo : Hid ((∀ m (hm : m < L.length), L[m].kind ≠ t) → hasSetP L t = false) := fun k => by
    unfold hasSetP
    rw [List.any_eq_false]
    intro x hx
    obtain ⟨i, hi, rfl⟩ := List.mem_iff_getElem.1 hx
    simpa using k i hi
  obtain ⟨a, c, c0, c1, f0, f1, _, hg⟩ := h.get
  have HG := hide hg
  have hlt := h.lt.2
  clear hg h
  generalize hasSetP L t = R at *
  go_enter Tryz.func163, Tryz.ntmps163
  go_wp2_with fail
  go_loop [5] (fun i => ∃ j : Nat, j ≤ L.length ∧ i = .int .i64 j ∧ Hid (∀ m (hm : m < L.length), m < j → L[m].kind ≠ t)) (fun i => L.length - (intOf i).toNat)
  case atStart => exact ⟨0, Nat.zero_le _, rfl, hide fun m _ hm => by omega⟩
  case round =>
    obtain ⟨j, hj, rfl, HL⟩ := hrel
    by_cases cj : j < L.length
    · obtain ⟨b, o, a', c', rfl, hb, x0, x1, x2, _, _⟩ := unhide HG j cj
      have hy := unhide HY j cj
      have HNx : Hid (L[j].kind ≠ t → ∀ m (hm : m < L.length), m < j + 1 → L[m].kind ≠ t) := hide fun h1 m hm hm2 => by
        rcases Nat.lt_or_ge m j with k | k
        · exact unhide HL m hm k
        · have : m = j := by omega
          subst this
          exact h1
      clear HL HY
      generalize L[j].kind = kd at *
      by_cases ck : kd = t
      · have hR := hy ck
        subst hR
        have f2 : (kd == t) = true := by rw [beq_iff_eq]; exact ck
        clear ck hy HNx
        go_wp2_with fail
        go_ret
        exact ⟨rfl, rfl⟩
      · have f2 : (kd == t) = false := beq_eq_false_iff_ne.2 ck
        have HN2 := hide (unhide HNx ck)
        clear ck hy HNx
        go_wp2_with fail
        go_round
        case rel => exact ⟨j + 1, by omega, by go_num, HN2⟩
        case measure => simp [intOf]; omega
    · have ej : j = L.length := by omega
      subst ej
      have hR := unhide HNo fun m hm => unhide HL m hm hm
      subst hR
      clear HNo HY HL
      go_wp2_with fail
      go_ret
      exact ⟨rfl, rfl⟩

set_option maxRecDepth 100000 in
set_option maxHeartbeats 2000000 in
theorem answers_m (N S : Nat) (az : Option Addr) (cz : Nat) (z : List RI) (L : List ST) (t : Int) (w : World) (h : Sr w N S az cz z L) (hl : L.length ≤ 134217728) :
    Calls Tryz.prog 144 #[.pointer (some ⟨S, 0, none⟩), .int .i64 t] w fun e w' => e = .returned (.bool (answersP L t)) ∧ w' = w := by
  have key := hasSet_m N S az cz z L t w h hl
  have Key := hide key
  obtain ⟨a, c, c0, c1, f0, f1, hzz, hgg⟩ := h.get
  have hlt := h.lt.2
  clear key h hzz hgg
  by_cases ct : t = 255
  · subst ct
    have hR : answersP L 255 = decide (0 < L.length) := by unfold answersP; rw [if_pos rfl]
    rw [hR]
    generalize L.length = n at *
    by_cases cn : 0 < n
    · go_enter Tryz.func144, Tryz.ntmps144
      go_wp2_with fail
      go_ret
      exact ⟨by simp [cn], rfl⟩
    · have e : n = 0 := by omega
      subst e
      go_enter Tryz.func144, Tryz.ntmps144
      go_wp2_with fail
      go_ret
      exact ⟨rfl, rfl⟩
  · have f2 : (t == 255) = false := beq_eq_false_iff_ne.2 ct
    have hR : answersP L t = hasSetP L t := by unfold answersP; rw [if_neg ct]
    rw [hR]
    clear hR ct
    go_enter Tryz.func144, Tryz.ntmps144
    go_wp2_with fail
    refine (unhide Key).mono ?_
    rintro e w' ⟨rfl, rfl⟩
    go_wp2_with fail
    go_ret
    exact ⟨rfl, rfl⟩

/-- Records that come out and lie where they lay. -/
def RowOut (w : World) (l : List RI) (e : Ending) (w' : World) : Prop := ∃ (a : Option Addr) (c : Nat), e = .returned (.slice a l.length c) ∧ RecRow w a l ∧ l.length ≤ c ∧ w' = w

set_option maxRecDepth 100000 in
set_option maxHeartbeats 2000000 in
theorem services_m (N S : Nat) (az : Option Addr) (cz : Nat) (z : List RI) (L : List ST) (w : World) (h : Sr w N S az cz z L) (hl : L.length ≤ 134217728) :
    Calls Tryz.prog 164 #[.pointer (some ⟨S, 0, none⟩)] w fun e w' => RowOut w (servicesP L) e w' := by
  have HY : Hid (∀ j (hj : j < L.length), (∀ m (hm : m < L.length), m < j → L[m].kind ≠ 33) → L[j].kind = 33 → servicesP L = L[j].l) := fun j hj k e => by
    unfold servicesP
    have : (L.find? fun s => decide (s.kind = 33)) = some L[j] := by
      rw [List.find?_eq_some_iff_getElem]
      exact ⟨decide_eq_true e, j, hj, rfl, fun m hm => by simpa using k m (by omega) hm⟩
    rw [this]
  have HNo : Hid ((∀ m (hm : m < L.length), L[m].kind ≠ 33) → servicesP L = []) := fun k => by
    unfold servicesP
    have : (L.find? fun s => decide (s.kind = 33)) = none := by
      rw [List.find?_eq_none]
      intro x hx
      obtain ⟨i, hi, rfl⟩ := List.mem_iff_getElem.1 hx
      simpa using k i hi
    rw [this]
  obtain ⟨a, c, c0, c1, f0, f1, _, hg⟩ := h.get
  have HG := hide hg
  have hlt := h.lt.2
  clear hg h
  generalize servicesP L = R at *
  go_enter Tryz.func164, Tryz.ntmps164
  go_wp2_with fail
  go_loop [3] (fun i => ∃ j : Nat, j ≤ L.length ∧ i = .int .i64 j ∧ Hid (∀ m (hm : m < L.length), m < j → L[m].kind ≠ 33)) (fun i => L.length - (intOf i).toNat)
  case atStart => exact ⟨0, Nat.zero_le _, rfl, hide fun m _ hm => by omega⟩
  case round =>
    obtain ⟨j, hj, rfl, HL⟩ := hrel
    by_cases cj : j < L.length
    · obtain ⟨b, o, a', c', rfl, hb, x0, x1, x2, x3, x4⟩ := unhide HG j cj
      have hy := unhide HY j cj (unhide HL)
      have HNx : Hid (L[j].kind ≠ 33 → ∀ m (hm : m < L.length), m < j + 1 → L[m].kind ≠ 33) := hide fun h1 m hm hm2 => by
        rcases Nat.lt_or_ge m j with k | k
        · exact unhide HL m hm k
        · have : m = j := by omega
          subst this
          exact h1
      clear HL HY
      generalize L[j] = s at *
      obtain ⟨sp, kd, sl⟩ := s
      simp only at x0 x1 x2 x3 x4 hy HNx
      have X3 := hide x3
      clear x3
      by_cases ck : kd = 33
      · have hR := hy ck
        subst hR
        subst ck
        clear hy HNx
        go_wp2_with fail
        go_ret
        exact ⟨_, _, rfl, unhide X3, x4, rfl⟩
      · have f2 : (kd == 33) = false := beq_eq_false_iff_ne.2 ck
        have HN2 := hide (unhide HNx ck)
        clear ck hy HNx
        go_wp2_with fail
        go_round
        case rel => exact ⟨j + 1, by omega, by go_num, HN2⟩
        case measure => simp [intOf]; omega
    · have ej : j = L.length := by omega
      subst ej
      have hR := unhide HNo fun m hm => unhide HL m hm hm
      subst hR
      clear HNo HY HL
      go_wp2_with fail
      go_ret
      exact ⟨none, 0, rfl, fun h => absurd rfl h, Nat.le_refl _, rfl⟩

theorem target_m (d : ByteArray) (w : World) (hd : d.size ≤ 4294967296) : Calls Tryz.prog 165 #[.string d] w fun e w' => e = .returned (.string (targetP d)) ∧ w' = w := by
  by_cases c : d.size < 6
  · have hR : targetP d = ⟨#[]⟩ := if_pos c
    rw [hR]
    go_enter Tryz.func165, Tryz.ntmps165
    go_wp2_with fail
    go_ret
    exact ⟨rfl, rfl⟩
  · have hR : targetP d = d.extract 6 d.size := if_neg c
    rw [hR]
    go_enter Tryz.func165, Tryz.ntmps165
    go_wp2_with fail
    go_ret
    exact ⟨rfl, rfl⟩

set_option maxRecDepth 100000 in
set_option maxHeartbeats 2000000 in
theorem isHost_m (x : RI) (node : ByteArray) (w : World) : Calls Tryz.prog 166 #[.agg #[.string x.name, .int .i64 x.ty, .int .i64 x.cl, .int .i64 x.ttl, .string x.data], .string node] w fun e w' => e = .returned (.bool (isHostP node x)) ∧ Below w.heap.size w w' := by
  have HR : Hid (isHostP node x = decide (x.name = node ∧ (x.ty = 1 ∨ x.ty = 28))) := rfl
  generalize isHostP node x = R at *
  obtain ⟨nm, ty, cl, ttl, dt⟩ := x
  simp only at *
  have hcase : ((nm.toList == node.toList) = false ∧ R = false) ∨ ((nm.toList == node.toList) = true ∧ (ty == 1) = true ∧ R = true) ∨ ((nm.toList == node.toList) = true ∧ (ty == 1) = false ∧ (ty == 28) = true ∧ R = true) ∨ ((nm.toList == node.toList) = true ∧ (ty == 1) = false ∧ (ty == 28) = false ∧ R = false) := by
    rw [unhide HR]
    by_cases c1 : nm = node
    · by_cases c2 : ty = 1
      · exact .inr (.inl ⟨strs_eq c1, by simp [c2], by simp [c1, c2]⟩)
      · by_cases c3 : ty = 28
        · exact .inr (.inr (.inl ⟨strs_eq c1, by simp [c2], by simp [c3], by simp [c1, c3]⟩))
        · exact .inr (.inr (.inr ⟨strs_eq c1, by simp [c2], by simp [c3], by simp [c2, c3]⟩))
    · exact .inl ⟨strs_ne c1, by simp [c1]⟩
  clear HR
  go_enter Tryz.func166, Tryz.ntmps166
  rcases hcase with ⟨f1, rfl⟩ | ⟨f1, f2, rfl⟩ | ⟨f1, f2, f3, rfl⟩ | ⟨f1, f2, f3, rfl⟩
  all_goals
    go_wp2_with fail
    go_ret
    exact ⟨rfl, (Below.refl _ _).alloc (Nat.le_refl _) _⟩

set_option maxRecDepth 100000 in
set_option maxHeartbeats 2000000 in
theorem has_m (N S : Nat) (az : Option Addr) (cz : Nat) (z : List RI) (L : List ST) (n : ByteArray) (w : World) (h : Sr w N S az cz z L) (hl : z.length ≤ 134217728) (hz : RSized' z) :
    Calls Tryz.prog 141 #[.pointer (some ⟨S, 0, none⟩), .string n] w fun e w' => e = .returned (.bool (hasP z n)) ∧ w' = w := by
  have HY : Hid (∀ j (hj : j < z.length), withinAt z[j].name n 0 = true → hasP z n = true) := fun j hj e => by
    unfold hasP
    rw [List.any_eq_true]
    exact ⟨z[j], List.getElem_mem hj, e⟩
  have HNo : Hid ((∀ m (hm : m < z.length), withinAt z[m].name n 0 = false) → hasP z n = false) := fun k => by
    unfold hasP
    rw [List.any_eq_false]
    intro x hx
    obtain ⟨i, hi, rfl⟩ := List.mem_iff_getElem.1 hx
    simpa using k i hi
  obtain ⟨a, c, c0, c1, f0, f1, hz0, _⟩ := h.get
  have HRow := hide hz0.row
  have hlt := h.lt.2
  clear h hz0
  generalize hasP z n = R at *
  go_enter Tryz.func141, Tryz.ntmps141
  go_wp2_with fail
  go_loop [5] (fun i => ∃ j : Nat, j ≤ z.length ∧ i = .int .i64 j ∧ Hid (∀ m (hm : m < z.length), m < j → withinAt z[m].name n 0 = false)) (fun i => z.length - (intOf i).toNat)
  case atStart => exact ⟨0, Nat.zero_le _, rfl, hide fun m _ hm => by omega⟩
  case round =>
    obtain ⟨j, hj, rfl, HL⟩ := hrel
    by_cases cj : j < z.length
    · obtain ⟨b, o, rfl, hb, x0, x1, x2, x3, x4⟩ := row_r (unhide HRow) j cj
      have hy := unhide HY j cj
      have hsz := (hz _ (List.getElem_mem cj)).1
      have HNx : Hid (withinAt z[j].name n 0 = false → ∀ m (hm : m < z.length), m < j + 1 → withinAt z[m].name n 0 = false) := hide fun h1 m hm hm2 => by
        rcases Nat.lt_or_ge m j with k | k
        · exact unhide HL m hm k
        · have : m = j := by omega
          subst this
          exact h1
      clear HL HY
      generalize z[j] = x at *
      obtain ⟨n0, t0, k0, l0, d0⟩ := x
      simp only at x0 x1 x2 x3 x4 hy HNx hsz
      have key := within_m n0 n w hsz
      generalize withinAt n0 n 0 = q at *
      have Key := hide key
      have HYq := hide hy
      clear key hy
      cases q with
      | true =>
        have hR := unhide HYq rfl
        subst hR
        go_wp2_with fail
        refine (unhide Key).mono ?_
        rintro e w' ⟨rfl, rfl⟩
        go_wp2_with fail
        go_ret
        exact ⟨rfl, rfl⟩
      | false =>
        have HN2 := hide (unhide HNx rfl)
        clear HNx HYq
        go_wp2_with fail
        refine (unhide Key).mono ?_
        rintro e w' ⟨rfl, rfl⟩
        go_wp2_with fail
        go_round
        case rel => exact ⟨j + 1, by omega, by go_num, HN2⟩
        case measure => simp [intOf]; omega
    · have ej : j = z.length := by omega
      subst ej
      have hR := unhide HNo fun m hm => unhide HL m hm hm
      subst hR
      clear HNo HY HL
      go_wp2_with fail
      go_ret
      exact ⟨rfl, rfl⟩

end Go.Proofs.YtdhobdmhnocbgaaGreat

namespace Go.Proofs.YtdhobdmhnocbgaaGreat
open Go.RowKit Zr

theorem wantTo_step (z : List RI) (n : ByteArray) (L : List ST) (j : Nat) (h : j < z.length) : wantTo z n L (j + 1) = if z[j].name = n ∧ hasSetP (wantTo z n L j) z[j].ty = false then wantP z (wantTo z n L j) 0 n z[j].ty else wantTo z n L j := by
  show (match z[j]? with | none => _ | some x => _) = _
  rw [List.getElem?_eq_getElem h]
theorem wantP_len (z : List RI) (L : List ST) (p : Nat) (n : ByteArray) (t : Int) : (wantP z L p n t).length ≤ L.length + 1 := by
  unfold wantP
  split
  · omega
  · simp
theorem wantTo_len (z : List RI) (n : ByteArray) (L : List ST) : ∀ j, (wantTo z n L j).length ≤ L.length + j
  | 0 => Nat.le_refl _
  | j + 1 => by
    have ih := wantTo_len z n L j
    rcases Nat.lt_or_ge j z.length with h | h
    · rw [wantTo_step z n L j h]
      split
      · have := wantP_len z (wantTo z n L j) 0 n z[j].ty
        omega
      · omega
    · show (match z[j]? with | none => _ | some x => _ : List ST).length ≤ _
      rw [List.getElem?_eq_none h]
      show (wantTo z n L j).length ≤ _
      omega

set_option maxRecDepth 100000 in
set_option maxHeartbeats 2000000 in
theorem wantAll_m (N S : Nat) (az : Option Addr) (cz : Nat) (z : List RI) (L : List ST) (n : ByteArray) (w : World) (h : Sr w N S az cz z L) (hz : z.length + L.length ≤ 134217728) :
    Calls Tryz.prog 162 #[.pointer (some ⟨S, 0, none⟩), .string n] w fun e w' => e = .returned (.tuple #[]) ∧ Sr w' N S az cz z (wantTo z n L z.length) ∧ AFrame N w w' := by
  have HStep := hide (wantTo_step z n L)
  have HLen := hide (wantTo_len z n L)
  have HS := hide h
  clear h
  have HZ : Hid (wantTo z n L 0 = L) := rfl
  go_enter Tryz.func162, Tryz.ntmps162
  go_wp2_with fail
  go_loopg [4] (z.length + 1) (fun g vi w' => ∃ (j : Nat), vi = .int .i64 j ∧ j ≤ z.length ∧ g = z.length + 1 - j ∧ Hid (Sr w' N S az cz z (wantTo z n L j)) ∧ Hid (AFrame N w w'))
  case atStart => exact ⟨0, rfl, Nat.zero_le _, rfl, hide (by rw [unhide HZ]; exact unhide HS), hide (AFrame.refl _ _)⟩
  case round =>
    obtain ⟨j, rfl, hj, rfl, HSr, HF⟩ := hrel
    obtain ⟨a, c, c0, c1, f0, f1, hz0, _⟩ := (unhide HSr).get
    have hlt := (unhide HSr).lt.2
    by_cases cj : j < z.length
    · obtain ⟨b, o, rfl, hb, x0, x1, x2, x3, x4⟩ := row_r hz0.row j cj
      have hst := unhide HStep j cj
      have hln := unhide HLen j
      generalize z[j] = x at *
      obtain ⟨n0, t0, k0, l0, d0⟩ := x
      simp only at x0 x1 x2 x3 x4 hst
      obtain ⟨M, hM⟩ : ∃ M, wantTo z n L (j + 1) = M := ⟨_, rfl⟩
      rw [hM] at hst
      have HMe := hide hM
      clear hM
      generalize wantTo z n L j = Q at *
      have kh := hasSet_m N S (some ⟨b, o, none⟩) cz z Q t0 wr (unhide HSr) (by omega)
      have kw := want_m N S (some ⟨b, o, none⟩) cz z Q 0 n t0 wr (unhide HSr) (by omega) (by omega)
      have KH := hide kh
      have KW := hide kw
      clear kh kw hz0
      by_cases cn : n0 = n
      · have f2 := strs_eq cn
        cases hq : hasSetP Q t0 with
        | true =>
          rw [hq] at hst KH
          rw [if_neg (by simp)] at hst
          subst hst
          clear cn hq
          go_wp2_with fail
          refine (unhide KH).mono ?_
          rintro e w' ⟨rfl, rfl⟩
          go_wp2_with fail
          go_roundg (z.length + 1 - (j + 1))
          case measure => omega
          case rel => exact ⟨j + 1, by go_num, by omega, rfl, hide (by rw [unhide HMe]; exact unhide HSr), HF⟩
        | false =>
          rw [hq] at hst KH
          rw [if_pos ⟨cn, rfl⟩] at hst
          have HM := hide hst
          clear cn hq hst
          go_wp2_with fail
          refine (unhide KH).mono ?_
          rintro e w' ⟨rfl, rfl⟩
          go_wp2_with fail
          refine (unhide KW).mono ?_
          rintro e w2 ⟨rfl, hS2, hF2⟩
          have HS2 := hide hS2
          have HF2 := hide ((unhide HF).trans hF2)
          clear hS2 hF2
          go_wp2_with fail
          go_roundg (z.length + 1 - (j + 1))
          case measure => omega
          case rel => exact ⟨j + 1, by go_num, by omega, rfl, hide (by rw [unhide HMe, unhide HM]; exact unhide HS2), HF2⟩
      · have f2 := strs_ne cn
        rw [if_neg (fun e => cn e.1)] at hst
        subst hst
        clear cn
        go_wp2_with fail
        go_roundg (z.length + 1 - (j + 1))
        case measure => omega
        case rel => exact ⟨j + 1, by go_num, by omega, rfl, hide (by rw [unhide HMe]; exact unhide HSr), HF⟩
    · have ej : j = z.length := by omega
      subst ej
      clear hz0
      go_wp2_with fail
      go_end0
      exact ⟨rfl, unhide HSr, unhide HF⟩

set_option maxRecDepth 100000 in
set_option maxHeartbeats 2000000 in
theorem wantAnswers_m (N S : Nat) (az : Option Addr) (cz : Nat) (z : List RI) (L : List ST) (n : ByteArray) (t : Int) (w : World) (h : Sr w N S az cz z L) (hz : z.length + L.length ≤ 134217720) :
    Calls Tryz.prog 143 #[.pointer (some ⟨S, 0, none⟩), .string n, .int .i64 t] w fun e w' => e = .returned (.tuple #[]) ∧ Sr w' N S az cz z (answP z L n t) ∧ AFrame N w w' := by
  have HS := hide h
  clear h
  by_cases c1 : t = 255
  · subst c1
    have hR : answP z L n 255 = wantTo z n L z.length := by unfold answP; rw [if_pos rfl]
    rw [hR]
    have ka := wantAll_m N S az cz z L n w (unhide HS) (by omega)
    have KA := hide ka
    clear ka hR
    generalize wantTo z n L z.length = M at *
    go_enter Tryz.func143, Tryz.ntmps143
    go_wp2_with fail
    refine (unhide KA).mono ?_
    rintro e w2 ⟨rfl, hS2, hF2⟩
    have HS2 := hide hS2
    have HF2 := hide hF2
    clear hS2 hF2
    go_wp2_with fail
    refine bodyPost_ret (results_none rfl _ _ _) rfl ?_
    exact ⟨rfl, unhide HS2, unhide HF2⟩
  · have f1 : (t == 255) = false := beq_eq_false_iff_ne.2 c1
    by_cases c2 : t = 5
    · subst c2
      have hR : answP z L n 5 = wantP z L 0 n 5 := by unfold answP; rw [if_neg (by decide), if_pos rfl]
      rw [hR]
      have ka := want_m N S az cz z L 0 n 5 w (unhide HS) (by omega) (by omega)
      have KA := hide ka
      clear ka hR c1 f1
      generalize wantP z L 0 n 5 = M at *
      go_enter Tryz.func143, Tryz.ntmps143
      go_wp2_with fail
      refine (unhide KA).mono ?_
      rintro e w2 ⟨rfl, hS2, hF2⟩
      have HS2 := hide hS2
      have HF2 := hide hF2
      clear hS2 hF2
      go_wp2_with fail
      refine bodyPost_ret (results_none rfl _ _ _) rfl ?_
      exact ⟨rfl, unhide HS2, unhide HF2⟩
    · have f2 : (t == 5) = false := beq_eq_false_iff_ne.2 c2
      have hR : answP z L n t = wantP z (wantP z L 0 n 5) 0 (aimP z n) t := by unfold answP; rw [if_neg c1, if_neg c2]
      rw [hR]
      clear hR c1 c2
      have ko := of_m N S az cz z L n 5 w (unhide HS) (by omega)
      have kw := fun (W : World) (h : Sr W N S az cz z L) => want_m N S az cz z L 0 n 5 W h (by omega) (by omega)
      have hwl := wantP_len z L 0 n 5
      have kw2 := fun (W : World) (m : ByteArray) (h : Sr W N S az cz z (wantP z L 0 n 5)) => want_m N S az cz z (wantP z L 0 n 5) 0 m t W h (by omega) (by omega)
      have HA : Hid ((ofP z n 5 = [] → aimP z n = n) ∧ (∀ x l, ofP z n 5 = x :: l → aimP z n = x.data)) := ⟨fun h => by unfold aimP; rw [h], fun x l h => by unfold aimP; rw [h]⟩
      have KO := hide ko
      have KW := hide kw
      have KW2 := hide kw2
      clear ko kw kw2
      have hol := ofP_len z n 5
      generalize ofP z n 5 = Q at *
      generalize aimP z n = A at *
      generalize wantP z L 0 n 5 = M at *
      go_enter Tryz.func143, Tryz.ntmps143
      go_wp2_with fail
      refine (unhide KO).mono ?_
      rintro e w1 ⟨a, c, rfl, o1, b1⟩
      obtain ⟨hr, hc⟩ := owns_recRow o1
      have HRec := hide hr
      have HS1 := hide ((unhide HS).below b1)
      have HF1 := hide (AFrame.of_below (N := N) b1)
      clear hr o1 b1 KO HS
      go_wp2_with fail
      refine (unhide KW _ (unhide HS1)).mono ?_
      rintro e w2 ⟨rfl, hS2, hF2⟩
      have HS2 := hide hS2
      have HF2 := hide ((unhide HF1).trans hF2)
      have HRec2 := hide ((unhide HRec).frame hF2)
      clear hS2 hF2 HRec HF1 HS1 KW
      cases Q with
      | nil =>
        have hA := (unhide HA).1 rfl
        subst hA
        clear HA
        go_wp2_with fail
        refine (unhide KW2 _ _ (unhide HS2)).mono ?_
        rintro e w3 ⟨rfl, hS3, hF3⟩
        have HS3 := hide hS3
        have HF3 := hide ((unhide HF2).trans hF3)
        clear hS3 hF3
        go_wp2_with fail
        go_end0
        exact ⟨rfl, unhide HS3, unhide HF3⟩
      | cons x l =>
        have hA := (unhide HA).2 x l rfl
        subst hA
        clear HA
        obtain ⟨b, o, rfl, hb, x0, x1, x2, x3, x4⟩ := row_r (unhide HRec2).row 0 (by simp)
        have hpos : 0 < (x :: l).length := by simp
        simp only [Nat.zero_mul, Nat.add_zero, List.getElem_cons_zero] at x0 x1 x2 x3 x4
        obtain ⟨dd, hdd⟩ : ∃ dd, x.data = dd := ⟨_, rfl⟩
        rw [hdd] at x4
        have HDD := hide hdd
        clear hdd
        generalize (x :: l).length = nq at *
        go_wp2_with fail
        refine (unhide KW2 _ _ (unhide HS2)).mono ?_
        rintro e w3 ⟨rfl, hS3, hF3⟩
        have HS3 := hide hS3
        have HF3 := hide ((unhide HF2).trans hF3)
        clear hS3 hF3
        go_wp2_with fail
        go_end0
        exact ⟨rfl, by rw [unhide HDD]; exact unhide HS3, unhide HF3⟩

end Go.Proofs.YtdhobdmhnocbgaaGreat

namespace Go.Proofs.YtdhobdmhnocbgaaGreat
open Go.RowKit Zr

theorem seek_stop {z : List RI} {node : ByteArray} {i : Nat} (h : i < z.length) (hh : isHostP node z[i] = true) : seekP z node i = i := by
  unfold seekP
  rw [List.drop_eq_getElem_cons h, List.takeWhile_cons_of_neg (by simp [hh])]
  rfl
theorem seek_go {z : List RI} {node : ByteArray} {i : Nat} (h : i < z.length) (hh : isHostP node z[i] = false) : seekP z node i = seekP z node (i + 1) := by
  unfold seekP
  rw [List.drop_eq_getElem_cons h, List.takeWhile_cons_of_pos (by simp [hh]), List.length_cons]
  omega
theorem seek_end {z : List RI} {node : ByteArray} {i : Nat} (h : z.length ≤ i) : seekP z node i = i := by
  unfold seekP
  rw [List.drop_eq_nil_of_le h]
  rfl
theorem seek_le {z : List RI} {node : ByteArray} {i : Nat} (h : i ≤ z.length) : i ≤ seekP z node i ∧ seekP z node i ≤ z.length := by
  unfold seekP
  have := (List.takeWhile_sublist (fun x => !isHostP node x) (l := z.drop i)).length_le
  rw [List.length_drop] at this
  omega
theorem hosts_step (z sv : List RI) (L : List ST) (j : Nat) (h : j < sv.length) :
    (∀ h2 : seekP z (targetP sv[j].data) (hostsTo z sv L j).1 < z.length, hostsTo z sv L (j + 1) = (seekP z (targetP sv[j].data) (hostsTo z sv L j).1, (hostsTo z sv L j).2 ++ [⟨2, z[seekP z (targetP sv[j].data) (hostsTo z sv L j).1].ty, [z[seekP z (targetP sv[j].data) (hostsTo z sv L j).1]]⟩])) ∧
    (z.length ≤ seekP z (targetP sv[j].data) (hostsTo z sv L j).1 → hostsTo z sv L (j + 1) = (seekP z (targetP sv[j].data) (hostsTo z sv L j).1, (hostsTo z sv L j).2)) := by
  refine ⟨fun h2 => ?_, fun h2 => ?_⟩
  · conv => lhs; unfold hostsTo
    rw [List.getElem?_eq_getElem h]
    simp only
    rw [List.getElem?_eq_getElem h2]
  · conv => lhs; unfold hostsTo
    rw [List.getElem?_eq_getElem h]
    simp only
    rw [List.getElem?_eq_none h2]
theorem hosts_le (z sv : List RI) (L : List ST) : ∀ j, (hostsTo z sv L j).1 ≤ z.length ∧ (hostsTo z sv L j).2.length ≤ L.length + j
  | 0 => ⟨Nat.zero_le _, Nat.le_refl _⟩
  | j + 1 => by
    obtain ⟨i1, i2⟩ := hosts_le z sv L j
    rcases Nat.lt_or_ge j sv.length with h | h
    · obtain ⟨s1, s2⟩ := hosts_step z sv L j h
      have hs := (seek_le (node := targetP sv[j].data) i1).2
      rcases Nat.lt_or_ge (seekP z (targetP sv[j].data) (hostsTo z sv L j).1) z.length with k | k
      · rw [s1 k]
        refine ⟨hs, ?_⟩
        simp only [List.length_append, List.length_cons, List.length_nil]
        omega
      · rw [s2 k]
        exact ⟨hs, by simp only; omega⟩
    · have e : hostsTo z sv L (j + 1) = hostsTo z sv L j := by
        conv => lhs; unfold hostsTo
        rw [List.getElem?_eq_none h]
      rw [e]
      exact ⟨i1, by omega⟩

/-- One record, newly laid. -/
theorem recRow_new {w : World} {B : Nat} {x : RI} (h : w.heap[B]? = some (.cells #[.string x.name, .int .i64 x.ty, .int .i64 x.cl, .int .i64 x.ttl, .string x.data] 42 (0, 0))) : RecRow w (some ⟨B, 0, none⟩) [x] := by
  intro _
  refine ⟨B, 0, _, rfl, h, fun j u hu => ?_⟩
  rw [Nat.zero_add]
  have e : rcI [x] = [.string x.name, .int .i64 x.ty, .int .i64 x.cl, .int .i64 x.ttl, .string x.data] := rfl
  rw [e] at hu
  rw [← hu]
  simp

set_option maxRecDepth 100000 in
set_option maxHeartbeats 4000000 in
theorem wantHosts_m (N S : Nat) (az : Option Addr) (cz : Nat) (z : List RI) (L : List ST) (w : World) (h : Sr w N S az cz z L) (hz : z.length ≤ 33554432) (hL : L.length ≤ 33554432) (hsv : (servicesP L).length ≤ 33554432) (hsz : RSized' (servicesP L)) :
    Calls Tryz.prog 145 #[.pointer (some ⟨S, 0, none⟩)] w fun e w' => e = .returned (.tuple #[]) ∧ Sr w' N S az cz z (hostsP z L) ∧ AFrame N w w' := by
  have ks := services_m N S az cz z L w h (by omega)
  have KS := hide ks
  have HS := hide h
  have hR : hostsP z L = (hostsTo z (servicesP L) L (servicesP L).length).2 := rfl
  rw [hR]
  clear ks h hR
  generalize servicesP L = sv at *
  have HStep := hide (hosts_step z sv L)
  have HLe := hide (hosts_le z sv L)
  have HZ : Hid (hostsTo z sv L 0 = (0, L)) := rfl
  have HSz := hide hsz
  clear hsz
  go_enter Tryz.func145, Tryz.ntmps145
  go_wp2_with fail
  refine (unhide KS).mono ?_
  rintro e w' ⟨a, c, rfl, hr, hc, hw'⟩
  have hw2 := hw'.symm
  subst hw2
  clear hw'
  have HRec := hide hr
  clear hr KS
  go_wp2_with fail
  go_loopg [3, 4] (sv.length + 1) (fun g va vi w' => ∃ (j k : Nat), vi = .int .i64 j ∧ va = .int .i64 k ∧ j ≤ sv.length ∧ g = sv.length + 1 - j ∧ Hid ((hostsTo z sv L j).1 = k) ∧ Hid (Sr w' N S az cz z (hostsTo z sv L j).2) ∧ Hid (AFrame N w w'))
  case atStart => exact ⟨0, 0, rfl, rfl, Nat.zero_le _, rfl, hide rfl, hide (by rw [unhide HZ]; exact unhide HS), hide (AFrame.refl _ _)⟩
  case round =>
    obtain ⟨j, k, rfl, rfl, hj, rfl, Hk, HSr, HF⟩ := hrel
    by_cases cj : j < sv.length
    · obtain ⟨b, o, rfl, hb, x0, x1, x2, x3, x4⟩ := row_r ((unhide HRec).frame (unhide HF)).row j cj
      obtain ⟨st1, st2⟩ := unhide HStep j cj
      obtain ⟨le1, le2⟩ := unhide HLe j
      have hszj := (unhide HSz _ (List.getElem_mem cj)).2
      rw [unhide Hk] at st1 st2 le1
      generalize hd : sv[j].data = dd at *
      clear hd
      generalize (hostsTo z sv L j).2 = Q at *
      have kt := target_m dd wr hszj
      generalize targetP dd = node at *
      have hsk := (seek_le (z := z) (node := node) le1).2
      have HSk : Hid (seekP z node k = seekP z node k) := rfl
      generalize hK : seekP z node k = K at st1 st2 hsk
      have HK := hide hK
      have ST1 := hide st1
      have ST2 := hide st2
      have KT := hide kt
      clear hK st1 st2 kt HSk
      go_wp2_with fail
      refine (unhide KT).mono ?_
      rintro e w' ⟨rfl, hw'⟩
      have hw2 := hw'.symm
      subst hw2
      clear KT hw'
      go_wp2_with fail
      go_loopg [3] (z.length + 1 - k) (fun g va w' => ∃ (i : Nat), va = .int .i64 i ∧ i ≤ z.length ∧ g = z.length + 1 - i ∧ Hid (seekP z node i = K) ∧ Hid (Below wr.heap.size wr w'))
      case atStart => exact ⟨k, rfl, le1, rfl, HK, hide (Below.refl _ _)⟩
      case round =>
        obtain ⟨i, rfl, hi, rfl, HKi, HBi⟩ := hrel
        have hSi := (unhide HSr).below (unhide HBi)
        obtain ⟨a2, c2, c0, c1, f0, f1, hz0, _⟩ := hSi.get
        have hltS := hSi.lt.2
        have HSi := hide hSi
        have HFi := hide ((unhide HF).trans (AFrame.of_below (N := N) (unhide HBi)))
        clear hSi
        by_cases ci : i < z.length
        · obtain ⟨b2, o2, rfl, hb2, y0, y1, y2, y3, y4⟩ := row_r hz0.row i ci
          obtain ⟨x, hx⟩ : ∃ x, z[i] = x := ⟨_, rfl⟩
          rw [hx] at y0 y1 y2 y3 y4
          have hgo : isHostP node x = false → seekP z node (i + 1) = K := fun e => by rw [← seek_go ci (by rw [hx]; exact e)]; exact unhide HKi
          have hst : isHostP node x = true → i = K := fun e => by rw [← unhide HKi]; exact (seek_stop ci (by rw [hx]; exact e)).symm
          have kh := isHost_m x node wr
          have HGo := hide hgo
          have HSt := hide hst
          have Hx := hide hx
          clear hgo hst hx hz0
          cases hq : isHostP node x with
          | false =>
            rw [hq] at kh HGo
            have KH := hide kh
            have HG2 := hide (unhide HGo rfl)
            clear kh hq HGo HSt
            go_wp2_with fail
            refine (unhide KH).mono ?_
            rintro e w2 ⟨rfl, hbw⟩
            have HB2 := hide ((unhide HBi).trans (hbw.mono (unhide HBi).size))
            clear hbw
            go_wp2_with fail
            go_roundg (z.length + 1 - (i + 1))
            case measure => omega
            case rel => exact ⟨i + 1, by go_num, by omega, rfl, HG2, HB2⟩
          | true =>
            rw [hq] at kh HSt
            have KH := hide kh
            have hiK := unhide HSt rfl
            subst hiK
            have hfin := unhide ST1 ci
            rw [unhide Hx] at hfin
            have HFin := hide hfin
            clear kh hq HGo HSt hfin ST1 ST2
            go_wp2_with fail
            refine (unhide KH).mono ?_
            rintro e w2 ⟨rfl, hbw⟩
            have hS2 := (unhide HSi).below hbw
            obtain ⟨a3, c3, d0, d1, g0, g1, hz2, _⟩ := hS2.get
            have hltS2 := hS2.lt.2
            have z0 := (hbw.cell (p := ⟨b2, o2 + i * 5, none⟩) hb2).trans y0
            have z1 := (hbw.cell (p := ⟨b2, o2 + i * 5 + 1, none⟩) hb2).trans y1
            have z2 := (hbw.cell (p := ⟨b2, o2 + i * 5 + 2, none⟩) hb2).trans y2
            have z3 := (hbw.cell (p := ⟨b2, o2 + i * 5 + 3, none⟩) hb2).trans y3
            have z4 := (hbw.cell (p := ⟨b2, o2 + i * 5 + 4, none⟩) hb2).trans y4
            have hb3 : b2 < w2.heap.size := Nat.lt_of_lt_of_le hb2 hbw.size
            have HS2 := hide hS2
            have HF2 := hide ((unhide HFi).trans (AFrame.of_below (N := N) hbw))
            clear hS2 hz2 hbw y0 y1 y2 y3 y4 KH HSi HFi
            have hA : Below w2.heap.size w2 ((w2.alloc (.cells #[.string x.name, .int .i64 x.ty, .int .i64 x.cl, .int .i64 x.ttl, .string x.data] 42)).alloc (.cells #[.string x.name, .int .i64 x.ty, .int .i64 x.cl, .int .i64 x.ttl, .string x.data] 42)) := ((Below.refl _ _).alloc (Nat.le_refl _) _).alloc (by simp) _
            have hsA : (w2.alloc (.cells #[.string x.name, .int .i64 x.ty, .int .i64 x.cl, .int .i64 x.ttl, .string x.data] 42)).heap.size = w2.heap.size + 1 := by simp
            have hnew := heap_alloc_new (w2.alloc (.cells #[.string x.name, .int .i64 x.ty, .int .i64 x.cl, .int .i64 x.ttl, .string x.data] 42)) (.cells #[.string x.name, .int .i64 x.ty, .int .i64 x.cl, .int .i64 x.ttl, .string x.data] 42)
            rw [hsA] at hnew
            have hS4 := (unhide HS2).below hA
            have ka := addSet_m N S (some ⟨b2, o2, none⟩) cz z Q ⟨2, x.ty, [x]⟩ (some ⟨w2.heap.size + 1, 0, none⟩) 1 _ hS4 (recRow_new hnew) (Nat.le_refl _) (by omega)
            have HF4 := hide ((unhide HF2).trans (AFrame.of_below (N := N) hA))
            have KA := hide ka
            clear hA hsA hnew hS4 ka
            go_wp2_with fail
            refine (unhide KA).mono ?_
            rintro e w3 ⟨rfl, hS3, hF3⟩
            have HS3 := hide hS3
            have HF3 := hide ((unhide HF4).trans hF3)
            clear hS3 hF3
            go_wp2_with fail
            go_roundg (sv.length + 1 - (j + 1))
            case measure => omega
            case rel => exact ⟨j + 1, i, by go_num, rfl, by omega, rfl, hide (by rw [unhide HFin]), hide (by rw [unhide HFin]; exact unhide HS3), HF3⟩
        · have hiK : i = K := by rw [← unhide HKi]; exact (seek_end (by omega)).symm
          subst hiK
          have hfin := unhide ST2 (by omega)
          have HFin := hide hfin
          clear hfin ST1 ST2 hz0
          go_wp2_with fail
          go_roundg (sv.length + 1 - (j + 1))
          case measure => omega
          case rel => exact ⟨j + 1, i, by go_num, rfl, by omega, rfl, hide (by rw [unhide HFin]), hide (by rw [unhide HFin]; exact unhide HSi), HFi⟩
    · have ej : j = sv.length := by omega
      subst ej
      go_wp2_with fail
      go_end0
      exact ⟨rfl, unhide HSr, unhide HF⟩

/-- All sets are made of the zone's records. -/
def SubZ (z : List RI) (L : List ST) : Prop := ∀ s, s ∈ L → s.l ≠ [] ∧ s.part ≤ 2 ∧ s.l.length ≤ z.length ∧ ∀ x, x ∈ s.l → x ∈ z
theorem SubZ.nil (z : List RI) : SubZ z [] := fun s hs => by cases hs
theorem SubZ.want {z : List RI} {L : List ST} (h : SubZ z L) (p : Nat) (hp : p ≤ 2) (n : ByteArray) (t : Int) : SubZ z (wantP z L p n t) := by
  unfold wantP
  split
  · exact h
  · next hne =>
    intro s hs
    rcases List.mem_append.1 hs with k | k
    · exact h s k
    · rw [List.mem_singleton] at k
      subst k
      exact ⟨hne, hp, ofP_len z n t, fun x hx => (List.mem_filter.1 hx).1⟩
theorem SubZ.all {z : List RI} {L : List ST} (h : SubZ z L) (n : ByteArray) : ∀ j, SubZ z (wantTo z n L j)
  | 0 => h
  | j + 1 => by
    have ih := SubZ.all h n j
    rcases Nat.lt_or_ge j z.length with k | k
    · rw [wantTo_step z n L j k]
      split
      · exact ih.want 0 (by omega) n _
      · exact ih
    · show SubZ z (match z[j]? with | none => _ | some x => _ : List ST)
      rw [List.getElem?_eq_none k]
      exact ih
theorem SubZ.answ {z : List RI} {L : List ST} (h : SubZ z L) (n : ByteArray) (t : Int) : SubZ z (answP z L n t) := by
  unfold answP
  split
  · exact h.all n _
  · split
    · exact h.want 0 (by omega) n 5
    · exact (h.want 0 (by omega) n 5).want 0 (by omega) _ t
theorem SubZ.main (z : List RI) (n : ByteArray) (t : Int) : SubZ z (mainP z n t) := by
  unfold mainP soaP
  split
  · exact (SubZ.nil z).answ n t
  · exact ((SubZ.nil z).answ n t).want 1 (by omega) _ 6
theorem SubZ.services {z : List RI} {L : List ST} (h : SubZ z L) : (servicesP L).length ≤ z.length ∧ ∀ x, x ∈ servicesP L → x ∈ z := by
  unfold servicesP
  split
  · exact ⟨Nat.zero_le _, fun x hx => by cases hx⟩
  · next s hs =>
    have := h s (List.mem_of_find?_eq_some hs)
    exact ⟨this.2.2.1, this.2.2.2⟩
theorem answ_len (z : List RI) (n : ByteArray) (t : Int) : (answP z [] n t).length ≤ z.length + 2 := by
  unfold answP
  split
  · have := wantTo_len z n [] z.length
    simp only [List.length_nil] at this
    omega
  · split
    · have := wantP_len z [] 0 n 5
      simp only [List.length_nil] at this
      omega
    · have h1 := wantP_len z [] 0 n 5
      have h2 := wantP_len z (wantP z [] 0 n 5) 0 (aimP z n) t
      simp only [List.length_nil] at h1
      omega
theorem main_len (z : List RI) (n : ByteArray) (t : Int) : (mainP z n t).length ≤ z.length + 3 := by
  have h1 := answ_len z n t
  unfold mainP soaP
  split
  · omega
  · have := wantP_len z (answP z [] n t) 1 originB 6
    omega

set_option maxRecDepth 100000 in
set_option maxHeartbeats 2000000 in
theorem run_m (N S : Nat) (az : Option Addr) (cz : Nat) (z : List RI) (n : ByteArray) (t : Int) (w : World) (h : Sr w N S az cz z []) (hz : z.length ≤ 16777216) (hsz : RSized' z) :
    Calls Tryz.prog 114 #[.pointer (some ⟨S, 0, none⟩), .string n, .int .i64 t] w fun e w' => e = .returned (.int .i64 (toldP z n : Nat)) ∧ Sr w' N S az cz z (setsP z n t) ∧ AFrame N w w' := by
  have kh := has_m N S az cz z [] n w h (by omega) hsz
  have KH := hide kh
  have HS := hide h
  clear kh h
  cases hq : hasP z n with
  | false =>
    have e1 : toldP z n = 3 := by unfold toldP; rw [hq]; rfl
    have e2 : setsP z n t = wantP z [] 1 originB 6 := by unfold setsP; rw [hq]; rfl
    rw [hq] at KH
    rw [e1, e2]
    have kw := want_m N S az cz z [] 1 originB 6 w (unhide HS) (by omega) (by simp)
    have KW := hide kw
    clear kw e1 e2 hq
    generalize wantP z [] 1 originB 6 = M at *
    go_enter Tryz.func114, Tryz.ntmps114
    go_wp2_with fail
    refine (unhide KH).mono ?_
    rintro e w' ⟨rfl, rfl⟩
    go_wp2_with fail
    refine (unhide KW).mono ?_
    rintro e w2 ⟨rfl, hS2, hF2⟩
    have HS2 := hide hS2
    have HF2 := hide hF2
    clear hS2 hF2
    go_wp2_with fail
    go_ret
    exact ⟨rfl, unhide HS2, unhide HF2⟩
  | true =>
    have e1 : toldP z n = 0 := by unfold toldP; rw [hq]; rfl
    have e2 : setsP z n t = hostsP z (mainP z n t) := by unfold setsP; rw [hq]; rfl
    rw [hq] at KH
    rw [e1, e2]
    have hal := answ_len z n t
    have hml := main_len z n t
    have hsv := (SubZ.main z n t).services
    have ka := wantAnswers_m N S az cz z [] n t w (unhide HS) (by simp; omega)
    have kn := fun (W : World) (h : Sr W N S az cz z (answP z [] n t)) => answers_m N S az cz z (answP z [] n t) t W h (by omega)
    have kw := fun (W : World) (h : Sr W N S az cz z (answP z [] n t)) => want_m N S az cz z (answP z [] n t) 1 originB 6 W h (by omega) (by omega)
    have kho := fun (W : World) (h : Sr W N S az cz z (mainP z n t)) => wantHosts_m N S az cz z (mainP z n t) W h (by omega) (by omega) (by omega) (fun x hx => hsz x (hsv.2 x hx))
    have HM : Hid ((answersP (answP z [] n t) t = true → mainP z n t = answP z [] n t) ∧ (answersP (answP z [] n t) t = false → mainP z n t = wantP z (answP z [] n t) 1 originB 6)) := ⟨fun h => by unfold mainP; rw [h]; rfl, fun h => by unfold mainP; rw [h]; rfl⟩
    have KA := hide ka
    have KN := hide kn
    have KW := hide kw
    have KHo := hide kho
    clear ka kn kw kho e1 e2 hq hsv hal hml
    generalize hostsP z (mainP z n t) = R at *
    generalize mainP z n t = M at *
    generalize answP z [] n t = A at *
    go_enter Tryz.func114, Tryz.ntmps114
    go_wp2_with fail
    refine (unhide KH).mono ?_
    rintro e w' ⟨rfl, rfl⟩
    go_wp2_with fail
    refine (unhide KA).mono ?_
    rintro e w2 ⟨rfl, hS2, hF2⟩
    have kn2 := unhide KN _ hS2
    have HS2 := hide hS2
    have HF2 := hide hF2
    clear hS2 hF2
    cases hb : answersP A t with
    | true =>
      have hM := (unhide HM).1 hb
      subst hM
      rw [hb] at kn2
      have KN2 := hide kn2
      clear kn2 HM
      go_wp2_with fail
      refine (unhide KN2).mono ?_
      rintro e w' ⟨rfl, rfl⟩
      go_wp2_with fail
      refine (unhide KHo _ (unhide HS2)).mono ?_
      rintro e w3 ⟨rfl, hS3, hF3⟩
      have HS3 := hide hS3
      have HF3 := hide ((unhide HF2).trans hF3)
      clear hS3 hF3
      go_wp2_with fail
      go_ret
      exact ⟨rfl, unhide HS3, unhide HF3⟩
    | false =>
      have hM := (unhide HM).2 hb
      rw [hb] at kn2
      have KN2 := hide kn2
      have HMe := hide hM
      clear kn2 HM hM
      go_wp2_with fail
      refine (unhide KN2).mono ?_
      rintro e w' ⟨rfl, rfl⟩
      go_wp2_with fail
      refine (unhide KW _ (unhide HS2)).mono ?_
      rintro e w3 ⟨rfl, hS3, hF3⟩
      rw [← unhide HMe] at hS3
      have HS3 := hide hS3
      have HF3 := hide ((unhide HF2).trans hF3)
      clear hS3 hF3
      go_wp2_with fail
      refine (unhide KHo _ (unhide HS3)).mono ?_
      rintro e w4 ⟨rfl, hS4, hF4⟩
      have HS4 := hide hS4
      have HF4 := hide ((unhide HF3).trans hF4)
      clear hS4 hF4
      go_wp2_with fail
      go_ret
      exact ⟨rfl, unhide HS4, unhide HF4⟩

end Go.Proofs.YtdhobdmhnocbgaaGreat
