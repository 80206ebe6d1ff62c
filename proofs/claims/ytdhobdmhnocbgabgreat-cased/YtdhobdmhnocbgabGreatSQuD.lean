/-
  Walks over zonekeep: a question, written and read back; an answer, read.
-/
/-
  Walks over zonekeep: an answer, read.
-/
import Derived.Test.YtdhobdmhnocbgabGreatSQuB
import Derived.Test.YtdhobdmhnocbgabGreatSSiW
namespace Go.Proofs.YtdhobdmhnocbgabGreat
open Go.RowKit Zr

theorem ro_begin {w : World} {N : Nat} {a : Option Addr} {n c : Nat} (h : RawAt w N a n) (hN : N ≤ w.heap.size) (hn : n ≤ 9223372036854775807) : Ro (w.alloc (.cells #[.slice a n c, .int .i64 0, .slice none 0 0] 45)) N w.heap.size a n c [] :=
  ⟨0, none, 0, heap_alloc_new _ _, hN, Nat.zero_le _, hn, World.ownsRow_nil _ _ _ _, h.below ((Below.refl N w).alloc hN _), fun s hs => by simp at hs⟩

theorem que_size {m : MI} (h : QueM m) : (writ m.nat).1.size ≤ 65535 := by
  refine Nat.le_trans (writ_le m h.ok) ?_
  obtain ⟨ok, _, q2, a0, u0, x1⟩ := h
  have hq : whlQ m.q ≤ 600 := by
    have hz : ∀ i (hi : i < m.q.length), m.q[i].name.size ≤ 255 := fun i hi => (whole_pos (ok.2.2.1.2 i hi).1).2
    match hx : m.q with
    | [] => show 12 ≤ 600; omega
    | [q] =>
      have := hz 0 (by rw [hx]; simp)
      simp only [hx, List.getElem_cons_zero] at this
      show 12 + q.name.size + 4 ≤ 600
      omega
    | [q, r] =>
      have h0 := hz 0 (by rw [hx]; simp)
      have h1 := hz 1 (by rw [hx]; simp)
      simp only [hx, List.getElem_cons_zero, List.getElem_cons_succ] at h0 h1
      show 12 + q.name.size + 4 + r.name.size + 4 ≤ 600
      omega
    | _ :: _ :: _ :: l => rw [hx] at q2; simp at q2
  have ha : whlR m.a = 0 := by rw [a0]; rfl
  have hu : whlR m.u = 0 := by rw [u0]; rfl
  have hxx : whlR m.x ≤ 1000 := by
    rcases x1 with k | ⟨o, k, _, _, hd⟩
    · rw [k]; decide
    · have hn : o.name.size ≤ 255 := by
        have := (ok.2.2.2.2.2.2 0 (by rw [k]; simp)).1.1
        simp only [k, List.getElem_cons_zero] at this
        exact (whole_pos this).2
      rw [k]
      show 0 + o.name.size + 10 + o.data.size ≤ 1000
      omega
  unfold whl
  omega

theorem size_drew (w : World) : w.drew.heap.size = w.heap.size := rfl
theorem drew_below {B : Nat} (w : World) : Below B w w.drew := below_drew (Below.refl B w)
/-- A message stays what it is while the result's box is filled. -/
theorem ask_out {w w7 : World} {P X : Nat} {v : Value} {m : MI} (hM : MsgAt w7 w7.heap.size v m) (hH : HighM P v) (hX : X < P) (hB : Below X w w7) {x0 x1 x2 x3 x4 x5 : Value} {t : TypeId} (hP : w7.heap[X]? = some (.cells #[x0, x1, x2, x3, x4, x5] t (0, 0))) (v0 v1 v2 v3 v4 v5 : Value) :
    MsgAt ((((((w7.setCell ⟨X, 0, none⟩ v0).setCell ⟨X, 1, none⟩ v1).setCell ⟨X, 2, none⟩ v2).setCell ⟨X, 3, none⟩ v3).setCell ⟨X, 4, none⟩ v4).setCell ⟨X, 5, none⟩ v5).drew ((((((w7.setCell ⟨X, 0, none⟩ v0).setCell ⟨X, 1, none⟩ v1).setCell ⟨X, 2, none⟩ v2).setCell ⟨X, 3, none⟩ v3).setCell ⟨X, 4, none⟩ v4).setCell ⟨X, 5, none⟩ v5).drew.heap.size v m ∧ Below X w ((((((w7.setCell ⟨X, 0, none⟩ v0).setCell ⟨X, 1, none⟩ v1).setCell ⟨X, 2, none⟩ v2).setCell ⟨X, 3, none⟩ v3).setCell ⟨X, 4, none⟩ v4).setCell ⟨X, 5, none⟩ v5).drew ∧ ((((((w7.setCell ⟨X, 0, none⟩ v0).setCell ⟨X, 1, none⟩ v1).setCell ⟨X, 2, none⟩ v2).setCell ⟨X, 3, none⟩ v3).setCell ⟨X, 4, none⟩ v4).setCell ⟨X, 5, none⟩ v5).drew.heap[X]? = some (.cells #[v0, v1, v2, v3, v4, v5] t (0, 0)) := by
  have hz : ∀ u : World, u.heap.size = w7.heap.size → u.drew.heap.size = w7.heap.size := fun u h => (size_drew u).trans h
  have h1 := (((((hM.keepSet hH hX 0 v0).keepSet hH hX 1 v1).keepSet hH hX 2 v2).keepSet hH hX 3 v3).keepSet hH hX 4 v4).keepSet hH hX 5 v5
  have h2 := below_set6 hB (Nat.le_refl _) v0 v1 v2 v3 v4 v5
  have h3 := store6 hP v0 v1 v2 v3 v4 v5
  have h4 : ((((((w7.setCell ⟨X, 0, none⟩ v0).setCell ⟨X, 1, none⟩ v1).setCell ⟨X, 2, none⟩ v2).setCell ⟨X, 3, none⟩ v3).setCell ⟨X, 4, none⟩ v4).setCell ⟨X, 5, none⟩ v5).heap.size = w7.heap.size := by simp only [size_set]
  generalize ((((((w7.setCell ⟨X, 0, none⟩ v0).setCell ⟨X, 1, none⟩ v1).setCell ⟨X, 2, none⟩ v2).setCell ⟨X, 3, none⟩ v3).setCell ⟨X, 4, none⟩ v4).setCell ⟨X, 5, none⟩ v5) = u at *
  refine ⟨?_, below_drew h2, h3⟩
  rw [hz u h4]
  exact h1.below (drew_below u)

/-- What asked hands back. -/
def AskOut (w : World) (e : Ending) (w' : World) : Prop := ∃ m v, e = .returned (.tuple #[.string (writ m.nat).1, v, .bool true]) ∧ QueM m ∧ MsgAt w' w'.heap.size v m ∧ Below w.heap.size w w'

set_option maxRecDepth 100000 in
set_option maxHeartbeats 4000000 in
theorem asked_k (l : List Ev) (al : Option Addr) (cl : Nat) (a : Option Addr) (n c : Nat) (w : World) (hE : RowAt w w.heap.size al (evC l)) (hl : l.length ≤ 16777216) (hz : EvSized l) (hraw : RawAt w w.heap.size a n) (hn : n ≤ 9223372036854775807) :
    Calls Tryz.prog 8 #[.slice al l.length cl, .slice a n c] w fun e w' => AskOut w e w' := by
  have hA := (Below.refl w.heap.size w).alloc (Nat.le_refl _) (.cells #[.int .i64 0, .int .i64 0, .slice none 0 0, .slice none 0 0, .slice none 0 0, .slice none 0 0] 27)
  have hB1 := hA.alloc (by simp) (.cells #[.slice a n c, .int .i64 0, .slice none 0 0] 45)
  have hz1 : (w.alloc (.cells #[.int .i64 0, .int .i64 0, .slice none 0 0, .slice none 0 0, .slice none 0 0, .slice none 0 0] 27)).heap.size = w.heap.size + 1 := by simp
  have hRo := ro_begin (c := c) (hraw.below hA) (by simp) hn
  rw [hz1] at hRo
  have hRK : RowK w.heap.size ((w.alloc (.cells #[.int .i64 0, .int .i64 0, .slice none 0 0, .slice none 0 0, .slice none 0 0, .slice none 0 0] 27)).alloc (.cells #[.slice a n c, .int .i64 0, .slice none 0 0] 45)) al l := ⟨w.heap.size, fun W hW => hE.below (hB1.trans (hW.below hB1.size))⟩
  have kq := question_k w.heap.size (w.heap.size + 1) a n c [] l al cl _ hRo (by simp) hRK hl hz
  have hP1 := (two_new w (.cells #[.int .i64 0, .int .i64 0, .slice none 0 0, .slice none 0 0, .slice none 0 0, .slice none 0 0] 27) (.cells #[.slice a n c, .int .i64 0, .slice none 0 0] 45)).1
  have KQ := hide kq
  have HB1 := hide hB1
  have HP1 := hide hP1
  clear hA hz1 hRo hRK kq hP1 hB1 hE hraw hl hz
  go_enter Tryz.func8, Tryz.ntmps8
  go_wp2_with fail
  generalize (w.alloc (.cells #[.int .i64 0, .int .i64 0, .slice none 0 0, .slice none 0 0, .slice none 0 0, .slice none 0 0] 27)).alloc (.cells #[.slice a n c, .int .i64 0, .slice none 0 0] 45) = W1 at *
  refine (unhide KQ).mono ?_
  rintro e w2 ⟨m, v, rfl, hQ, hM, hF, hHi⟩
  have hXlt : w.heap.size < W1.heap.size := blk_lt (unhide HP1)
  have HHi := hide hHi
  clear hHi
  have hB2 := (unhide HB1).trans (hF.below (unhide HB1).size)
  have hP2 := hF.kind _ _ _ _ (unhide HP1) (by decide) (by decide) (by decide)
  have HQ := hide hQ
  have hok := hQ.ok
  have hsz := que_size hQ
  have HM := hide hM
  obtain ⟨a1, ac1, a2, ac2, a3, ac3, a4, ac4, rfl, _⟩ := hM
  have hb2 := (Below.refl w2.heap.size w2).alloc (Nat.le_refl _) (.cells #[.int .i64 m.id, .int .i64 m.flags, .slice a1 m.q.length ac1, .slice a2 m.a.length ac2, .slice a3 m.u.length ac3, .slice a4 m.x.length ac4] 27)
  have hmb := heap_alloc_new w2 (.cells #[.int .i64 m.id, .int .i64 m.flags, .slice a1 m.q.length ac1, .slice a2 m.a.length ac2, .slice a3 m.u.length ac3, .slice a4 m.x.length ac4] 27)
  have HM3 := hide (((unhide HM).below hb2).mono hb2.size)
  have HP3 := hide ((hb2.block w.heap.size (blk_lt hP2)).trans hP2)
  have HB3 := hide (hB2.trans (hb2.mono hB2.size))
  have ks := zoneSerialize_any m _ _ (unhide HM3)
  have KS := hide ks
  have HMb := hide hmb
  have HMsame := hide (show (((writ m.nat).1.size ≤ 65535) ∧ parseP (writ m.nat).1 = .ok m.nat ∧ m.nat.int = m) from ⟨hsz, parse_writ m hok hsz, int_of_nat hok⟩)
  have HOk := hide hok
  have hne : w2.heap.size ≠ w.heap.size := by have := blk_lt hP2; omega
  clear hF hB2 hP2 hQ hb2 hmb ks KQ HB1 HP1 HM
  go_wp2_with fail
  generalize w2.alloc (.cells #[.int .i64 m.id, .int .i64 m.flags, .slice a1 m.q.length ac1, .slice a2 m.a.length ac2, .slice a3 m.u.length ac3, .slice a4 m.x.length ac4] 27) = w3 at *
  generalize w2.heap.size = B at *
  refine (unhide KS).mono ?_
  rintro e w4 ⟨⟨s, x, rfl, hs⟩, hb4⟩
  have hs2 : s = (writ m.nat).1 ∧ x = 0 := by
    rcases hs with ⟨k, _⟩ | ⟨_, k, _⟩ | ⟨_, _, k, k2⟩
    · exact absurd hok k
    · omega
    · exact ⟨k, k2⟩
  obtain ⟨rfl, rfl⟩ := hs2
  have HM4 := hide (((unhide HM3).below hb4).mono hb4.size)
  have HP4 := hide ((hb4.block w.heap.size (blk_lt (unhide HP3))).trans (unhide HP3))
  have HMb4 := hide ((hb4.block B (blk_lt (unhide HMb))).trans (unhide HMb))
  have HB4 := hide ((unhide HB3).trans (hb4.mono (unhide HB3).size))
  have kp := zoneParse_any (writ m.nat).1 w4 (by unfold maxLen; omega)
  rw [(unhide HMsame).2.1] at kp
  have KP := hide kp
  clear hs hb4 kp HM3 HP3 HMb HB3 KS hok
  obtain ⟨sb, hsb⟩ : ∃ sb, (writ m.nat).1 = sb := ⟨_, rfl⟩
  rw [hsb] at KP ⊢
  have HSb := hide hsb
  clear hsb
  go_wp2_with fail
  refine (unhide KP).mono ?_
  rintro e w5 ⟨vx, rfl, hmi, hb5⟩
  have hmi' : MsgIs w5 w4.heap.size vx m.nat := hmi
  have hmx := msgIs_at hmi' (by rw [(unhide HMsame).2.2]; exact unhide HOk)
  rw [(unhide HMsame).2.2] at hmx
  have HMx := hide hmx
  have HM5 := hide (((unhide HM4).below hb5).mono hb5.size)
  have HP5 := hide ((hb5.block w.heap.size (blk_lt (unhide HP4))).trans (unhide HP4))
  have HMb5 := hide ((hb5.block B (blk_lt (unhide HMb4))).trans (unhide HMb4))
  have HB5 := hide ((unhide HB4).trans (hb5.mono (unhide HB4).size))
  obtain ⟨b1, bc1, b2, bc2, b3, bc3, b4, bc4, rfl, _⟩ := hmx
  clear hmi hmi' hb5 KP HM4 HP4 HMb4 HB4
  have hb6 := (Below.refl w5.heap.size w5).alloc (Nat.le_refl _) (.cells #[.int .i64 m.id, .int .i64 m.flags, .slice b1 m.q.length bc1, .slice b2 m.a.length bc2, .slice b3 m.u.length bc3, .slice b4 m.x.length bc4] 27)
  have HMx6 := hide (((unhide HMx).below hb6).mono hb6.size)
  have HM6 := hide (((unhide HM5).below hb6).mono hb6.size)
  have HP6 := hide ((hb6.block w.heap.size (blk_lt (unhide HP5))).trans (unhide HP5))
  have hmb6 := (hb6.block B (blk_lt (unhide HMb5))).trans (unhide HMb5)
  have HMb6 := hide hmb6
  have HB6 := hide ((unhide HB5).trans (hb6.mono (unhide HB5).size))
  have kk := sameMessageK m _ _ _ _ _ (unhide HMx6) (unhide HM6) (msgOk_short (unhide HOk)) (Nat.le_refl _) (Nat.le_refl _)
  have KK := hide kk
  obtain ⟨⟨m0, m1, m2, m3, m4, m5⟩, _⟩ := cells6 (unhide HMb5)
  have lB := blk_lt (unhide HMb5)
  clear hb6 hmb6 kk HMx HM5 HP5 HMb5 HB5
  go_wp2_with fail
  generalize w5.alloc (.cells #[.int .i64 m.id, .int .i64 m.flags, .slice b1 m.q.length bc1, .slice b2 m.a.length bc2, .slice b3 m.u.length bc3, .slice b4 m.x.length bc4] 27) = w6 at *
  refine (unhide KK).mono ?_
  rintro e w7 ⟨rfl, hb7⟩
  have HM7 := hide (((unhide HM6).below hb7).mono hb7.size)
  have hP7 := (hb7.block w.heap.size (blk_lt (unhide HP6))).trans (unhide HP6)
  have hmb7 := (hb7.block B (blk_lt (unhide HMb6))).trans (unhide HMb6)
  have HB7 := hide ((unhide HB6).trans (hb7.mono (unhide HB6).size))
  clear m0 m1 m2 m3 m4 m5 hb7 KK HM6 HMx6 HP6 HMb6 HB6
  obtain ⟨⟨m0, m1, m2, m3, m4, m5⟩, _⟩ := cells6 hmb7
  obtain ⟨⟨p0, p1, p2, p3, p4, p5⟩, q0, q1, q2, q3, q4, q5⟩ := cells6 hP7
  have lB7 := blk_lt hmb7
  have lP7 := blk_lt hP7
  have HOut := hide (ask_out (unhide HM7) (unhide HHi) hXlt (unhide HB7) hP7 (.int .i64 m.id) (.int .i64 m.flags) (.slice a1 m.q.length ac1) (.slice a2 m.a.length ac2) (.slice a3 m.u.length ac3) (.slice a4 m.x.length ac4))
  clear hmb7 hP7 HM7 HB7 HHi
  go_wp2_with fail
  go_region
  all_goals go_wp2_with fail
  have hout := unhide HOut
  clear HOut m0 m1 m2 m3 m4 m5 p0 p1 p2 p3 p4 p5 q0 q1 q2 q3 q4 q5 lB7 lP7
  generalize ((((((w7.setCell ⟨w.heap.size, 0, none⟩ (.int .i64 m.id)).setCell ⟨w.heap.size, 1, none⟩ (.int .i64 m.flags)).setCell ⟨w.heap.size, 2, none⟩ (.slice a1 m.q.length ac1)).setCell ⟨w.heap.size, 3, none⟩ (.slice a2 m.a.length ac2)).setCell ⟨w.heap.size, 4, none⟩ (.slice a3 m.u.length ac3)).setCell ⟨w.heap.size, 5, none⟩ (.slice a4 m.x.length ac4)).drew = W9 at *
  obtain ⟨hm10, hb10, hk10⟩ := hout
  obtain ⟨⟨k0, k1, k2, k3, k4, k5⟩, _⟩ := cells6 hk10
  refine bodyPost_ret (v := .tuple #[.string sb, .agg #[.int .i64 m.id, .int .i64 m.flags, .slice a1 m.q.length ac1, .slice a2 m.a.length ac2, .slice a3 m.u.length ac3, .slice a4 m.x.length ac4], .bool true]) (by simp [results, Tryz.results8, go_sem, errOf, k0, k1, k2, k3, k4, k5]) rfl ?_
  exact ⟨m, _, by rw [unhide HSb], unhide HQ, hm10, hb10⟩

end Go.Proofs.YtdhobdmhnocbgabGreat

namespace Go.Proofs.YtdhobdmhnocbgabGreat
open Go.RowKit Zr

theorem msgIs_high {w : World} {N : Nat} {v : Value} {m : Msg} (h : MsgIs w N v m) : HighM N v := by
  obtain ⟨a1, c1, a2, c2, a3, c3, a4, c4, rfl, o1, o2, o3, o4, _⟩ := h
  refine ⟨_, rfl, fun k u g hk hu => ?_⟩
  match k with
  | 0 => cases hk; cases hu
  | 1 => cases hk; cases hu
  | 2 => cases hk; exact (o1.lt g hu).1
  | 3 => cases hk; exact (o2.lt g hu).1
  | 4 => cases hk; exact (o3.lt g hu).1
  | 5 => cases hk; exact (o4.lt g hu).1
  | k + 6 => simp at hk

/-- What answered hands back. -/
def AnsOut (w : World) (x : Rep) (e : Ending) (w' : World) : Prop := ∃ c v, e = .returned (.tuple #[.string (writ (repMsg x c).nat).1, v, .bool true]) ∧ Fitting x c ∧ MsgAt w' w'.heap.size v (repMsg x c) ∧ Below w.heap.size w w'

set_option maxRecDepth 100000 in
set_option maxHeartbeats 4000000 in
theorem answered_k (l : List Ev) (al : Option Addr) (cl N : Nat) (b : ByteArray) (stream : Bool) (w : World) (hE : RowAt w N al (evC l)) (hN : N ≤ w.heap.size) (hl : l.length ≤ 1048576) (hz : EvSized l) (hb : b.size ≤ 65535) (hmute : ¬ Mute b) :
    Calls Tryz.prog 9 #[.slice al l.length cl, .string b, .bool stream] w fun e w' => AnsOut w (repP l b stream) e w' := by
  have hA := (Below.refl w.heap.size w).alloc (Nat.le_refl _) (.cells #[.int .i64 0, .int .i64 0, .slice none 0 0, .slice none 0 0, .slice none 0 0, .slice none 0 0] 27)
  have hP1 := heap_alloc_new w (.cells #[.int .i64 0, .int .i64 0, .slice none 0 0, .slice none 0 0, .slice none 0 0, .slice none 0 0] 27)
  have kr := zoneRespond_m l al cl N b stream _ (hE.below (hA.mono hN)) (Nat.le_trans hN hA.size) hl hz (by unfold maxLen; omega)
  have hrep := rep_ok l b stream
  have HOne : Hid (∀ s, RespIs l b stream s → ∃ c, Fitting (repP l b stream) c ∧ s = (writ (repMsg (repP l b stream) c).nat).1) := fun s h => by
    rcases h with ⟨h, _⟩ | ⟨_, c, e, hf, hs⟩
    · exact absurd h hmute
    · exact ⟨c, hf, ans_ser _ hrep hf hs⟩
  have HAns : Hid (∀ c, Fitting (repP l b stream) c → msgOk (repMsg (repP l b stream) c) ∧ (writ (repMsg (repP l b stream) c).nat).1.size ≤ 65535) := fun c h => ⟨(ans_ok _ hrep h).1, (ans_ok _ hrep h).2.1⟩
  have KR := hide kr
  have HB1 := hide hA
  have HP1 := hide hP1
  clear hA hP1 kr hrep hmute hE hz hb
  obtain ⟨x, hx⟩ : ∃ x, repP l b stream = x := ⟨_, rfl⟩
  rw [hx] at HOne HAns ⊢
  clear hx
  go_enter Tryz.func9, Tryz.ntmps9
  go_wp2_with fail
  generalize w.alloc (.cells #[.int .i64 0, .int .i64 0, .slice none 0 0, .slice none 0 0, .slice none 0 0, .slice none 0 0] 27) = W1 at *
  refine (unhide KR).mono ?_
  rintro e w2 ⟨s, rfl, hs, hb2⟩
  obtain ⟨c, hf, rfl⟩ := unhide HOne s hs
  obtain ⟨hok, hsz⟩ := unhide HAns c hf
  have h12 := (writ_front (repMsg x c).nat).1
  have HFit := hide hf
  have HP2 := hide ((hb2.block w.heap.size (blk_lt (unhide HP1))).trans (unhide HP1))
  have HB2 := hide ((unhide HB1).trans (hb2.mono (unhide HB1).size))
  have hlt2 : w.heap.size < w2.heap.size := Nat.lt_of_lt_of_le (blk_lt (unhide HP1)) hb2.size
  have kp := zoneParse_any (writ (repMsg x c).nat).1 w2 (by unfold maxLen; omega)
  rw [parse_writ _ hok hsz] at kp
  have hio := int_of_nat hok
  have HOk := hide hok
  have HIo := hide hio
  have KP := hide kp
  have HRes : Hid (∀ sb v W, sb = (writ (repMsg x c).nat).1 → MsgAt W W.heap.size v (repMsg x c) → Below w.heap.size w W → AnsOut w x (.returned (.tuple #[.string sb, v, .bool true])) W) := fun sb v W h1 h2 h3 => ⟨c, v, by rw [h1], unhide HFit, h2, h3⟩
  obtain ⟨m, hm⟩ : ∃ m, repMsg x c = m := ⟨_, rfl⟩
  rw [hm] at KP HOk HIo HRes hsz h12 ⊢
  obtain ⟨sb, hsb⟩ : ∃ sb, (writ m.nat).1 = sb := ⟨_, rfl⟩
  rw [hsb] at KP HRes hsz h12 ⊢
  have e0 : sb.toList.isEmpty = false := by rw [bytes_isEmpty]; exact decide_eq_false (by omega)
  clear hs hf hok hb2 kp hio HOne HAns KR HB1 HP1 hm hsb
  go_wp2_with fail
  refine (unhide KP).mono ?_
  rintro e w5 ⟨vx, rfl, hmi, hb5⟩
  have hmi' : MsgIs w5 w2.heap.size vx m.nat := hmi
  have hhi := msgIs_high hmi'
  have hmx := msgIs_at hmi' (by rw [unhide HIo]; exact unhide HOk)
  rw [unhide HIo] at hmx
  have HHi := hide hhi
  have HMx := hide hmx
  have HP5 := hide ((hb5.block w.heap.size (blk_lt (unhide HP2))).trans (unhide HP2))
  have HB5 := hide ((unhide HB2).trans (hb5.mono (unhide HB2).size))
  obtain ⟨b1, bc1, b2, bc2, b3, bc3, b4, bc4, rfl, _⟩ := hmx
  clear hmi hmi' hhi hb5 KP HP2 HB2
  have hb6 := (Below.refl w5.heap.size w5).alloc (Nat.le_refl _) (.cells #[.int .i64 m.id, .int .i64 m.flags, .slice b1 m.q.length bc1, .slice b2 m.a.length bc2, .slice b3 m.u.length bc3, .slice b4 m.x.length bc4] 27)
  have hmb := heap_alloc_new w5 (.cells #[.int .i64 m.id, .int .i64 m.flags, .slice b1 m.q.length bc1, .slice b2 m.a.length bc2, .slice b3 m.u.length bc3, .slice b4 m.x.length bc4] 27)
  have hM6 := ((unhide HMx).below hb6).mono hb6.size
  have hP6 := (hb6.block w.heap.size (blk_lt (unhide HP5))).trans (unhide HP5)
  have HOut := hide (ask_out hM6 (unhide HHi) hlt2 ((unhide HB5).trans (hb6.mono (unhide HB5).size)) hP6 (.int .i64 m.id) (.int .i64 m.flags) (.slice b1 m.q.length bc1) (.slice b2 m.a.length bc2) (.slice b3 m.u.length bc3) (.slice b4 m.x.length bc4))
  have HMb := hide hmb
  have HP6 := hide hP6
  have hne : w5.heap.size ≠ w.heap.size := by have := blk_lt (unhide HP5); omega
  clear hb6 hmb hM6 hP6 HMx HP5 HB5 HHi
  simp only [errOf]
  go_wp2_with fail
  generalize w5.alloc (.cells #[.int .i64 m.id, .int .i64 m.flags, .slice b1 m.q.length bc1, .slice b2 m.a.length bc2, .slice b3 m.u.length bc3, .slice b4 m.x.length bc4] 27) = w7 at *
  generalize w5.heap.size = B at *
  obtain ⟨⟨m0, m1, m2, m3, m4, m5⟩, _⟩ := cells6 (unhide HMb)
  obtain ⟨⟨p0, p1, p2, p3, p4, p5⟩, q0, q1, q2, q3, q4, q5⟩ := cells6 (unhide HP6)
  have lB7 := blk_lt (unhide HMb)
  have lP7 := blk_lt (unhide HP6)
  clear HMb HP6
  go_region
  all_goals go_wp2_with fail
  have hout := unhide HOut
  clear HOut m0 m1 m2 m3 m4 m5 p0 p1 p2 p3 p4 p5 q0 q1 q2 q3 q4 q5 lB7 lP7
  generalize ((((((w7.setCell ⟨w.heap.size, 0, none⟩ (.int .i64 m.id)).setCell ⟨w.heap.size, 1, none⟩ (.int .i64 m.flags)).setCell ⟨w.heap.size, 2, none⟩ (.slice b1 m.q.length bc1)).setCell ⟨w.heap.size, 3, none⟩ (.slice b2 m.a.length bc2)).setCell ⟨w.heap.size, 4, none⟩ (.slice b3 m.u.length bc3)).setCell ⟨w.heap.size, 5, none⟩ (.slice b4 m.x.length bc4)).drew = W9 at *
  obtain ⟨hm10, hb10, hk10⟩ := hout
  obtain ⟨⟨k0, k1, k2, k3, k4, k5⟩, _⟩ := cells6 hk10
  refine bodyPost_ret (v := .tuple #[.string sb, .agg #[.int .i64 m.id, .int .i64 m.flags, .slice b1 m.q.length bc1, .slice b2 m.a.length bc2, .slice b3 m.u.length bc3, .slice b4 m.x.length bc4], .bool true]) (by simp [results, Tryz.results9, go_sem, k0, k1, k2, k3, k4, k5]) rfl ?_
  exact unhide HRes sb _ _ rfl hm10 hb10

end Go.Proofs.YtdhobdmhnocbgabGreat
