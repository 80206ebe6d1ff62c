/-
  Walks over zonekeep: begins, Denoted.
-/
import Derived.Test.YtdhobdmhnocbgaaDntE
namespace Go.Proofs.Ytdhobdmhnocbgaa
open Go.RowKit Zr

set_option maxRecDepth 100000 in
set_option maxHeartbeats 2000000 in
theorem begins_any (w : World) : Calls Try.prog 18 #[] w fun e w' => e = .returned (.bool true) ∧ Below w.heap.size w w' := by
  have hps := zoneParse_any ⟨#[0, 1, 0, 0, 0, 1, 0, 0, 0, 0, 0, 0, 1, 97, 0, 0, 1, 0, 1]⟩ w (by decide)
  have hok := parse_well _ _ parse_one
  rw [parse_one] at hps
  have HPS := hide hps
  have HOK := hide hok
  clear hps hok
  go_enter Try.func18, Try.ntmps18
  go_wp2_with fail
  refine (unhide HPS).mono ?_
  rintro e w1 ⟨v, rfl, hmi, hb1⟩
  have hmi' : MsgIs w1 w.heap.size v ⟨1, 0, [⟨⟨#[1, 97, 0]⟩, 1, 1⟩], [], [], []⟩ := hmi
  have hma := msgIs_at hmi' (unhide HOK)
  obtain ⟨a1, c1, a2, c2, a3, c3, a4, c4, rfl, o1, _⟩ := hma
  obtain ⟨bb, o, rfl, hbb, x0, _, _⟩ := row_q o1 0 (by decide)
  simp only [Msg.int, List.map_cons, List.map_nil, Qs.int, List.length_cons, List.length_nil, List.getElem_cons_zero, Nat.zero_mul, Nat.add_zero] at x0 ⊢
  have HB := hide hb1
  clear hmi hmi' HPS HOK o1 hb1
  go_wp2_with fail
  go_ret
  exact ⟨rfl, (unhide HB).alloc (unhide HB).size _⟩

theorem none_at (w : World) (N : Nat) : MsgAt w N noVal noMsg.int :=
  ⟨none, 0, none, 0, none, 0, none, 0, rfl, fun h => absurd rfl h, fun h => absurd rfl h, fun h => absurd rfl h, fun h => absurd rfl h,
    fun i h => by simp [Msg.int, noMsg] at h, fun i h => by simp [Msg.int, noMsg] at h, fun i h => by simp [Msg.int, noMsg] at h, fun i h => by simp [Msg.int, noMsg] at h, Nat.le_refl _, Nat.le_refl _, Nat.le_refl _, Nat.le_refl _⟩

theorem none_ok : msgOk noMsg.int := by
  refine ⟨⟨by decide, by decide⟩, ⟨by decide, by decide⟩, ⟨Nat.zero_le _, fun i h => ?_⟩, ⟨Nat.zero_le _, fun i h => ?_⟩, ⟨Nat.zero_le _, fun i h => ?_⟩, ⟨Nat.zero_le _, fun i h => ?_⟩⟩
  all_goals simp [Msg.int, noMsg] at h

set_option maxRecDepth 100000 in
set_option maxHeartbeats 2000000 in
theorem denoted_any (b : ByteArray) (w : World) (hb : b.size ≤ maxLen) :
    Calls Try.prog 6 #[.string b] w fun e w' => e = .returned (.bool true) ∧ Below w.heap.size w w' := by
  obtain ⟨N, hN⟩ : ∃ N, w.heap.size = N := ⟨_, rfl⟩
  rw [hN]
  have k0 := begins_any w
  rw [hN] at k0
  have K0 := hide k0
  have k1 := fun W => zoneParse_any b W hb
  have K1 := hide k1
  clear k0 k1
  go_enter Try.func6, Try.ntmps6
  go_wp2_with fail
  refine (unhide K0).mono ?_
  rintro e w0 ⟨rfl, hB0⟩
  go_wp2_with fail
  refine (unhide K1 _).mono ?_
  rintro e w1 ⟨v, rfl, hmi, hb1⟩
  have hB1 := hB0.trans (hb1.mono (by have := hB0.size; omega))
  clear hb1 hB0 K0 K1
  cases hp : parseP b with
  | error x =>
    rw [hp] at hmi
    have hx := parse_err b x hp
    have hmi' : MsgIs w1 w0.heap.size v noMsg := hmi
    have hma := msgIs_at hmi' none_ok
    have hx1 : (x != 0) = true := by simpa using hx
    obtain ⟨a1, c1, a2, c2, a3, c3, a4, c4, rfl, o1, o2, o3, o4, o5⟩ := id hma
    have hal := fun O => (Below.refl w1.heap.size w1).alloc (Nat.le_refl _) O
    have k2 := fun O => sameMessageK noMsg.int _ noVal w1.heap.size 0 (w1.alloc O) (hma.below (hal O)) (none_at _ _) (msgOk_short none_ok) (hal O).size (Nat.zero_le _)
    have K2 := hide k2
    have hA := fun O => hB1.alloc (by have := hB1.size; omega) O
    have hA2 := fun O w2 (h : Below (w1.alloc O).heap.size (w1.alloc O) w2) => (hA O).trans (h.mono (by have := (hA O).size; omega))
    have HA := hide hA2
    clear hA2 k2 hal hma hmi hmi' o1 o2 o3 o4 o5 hp hx hA
    simp only [Msg.int, noMsg, noVal, List.map_nil, List.length_nil, errOf, Int.natCast_zero] at K2 ⊢
    go_wp2_with fail
    refine (unhide K2 _).mono ?_
    rintro e w2 ⟨rfl, hb2⟩
    have hB2 := unhide HA _ _ hb2
    go_wp2_with fail
    go_ret
    exact ⟨rfl, hB2⟩
  | ok m =>
    rw [hp] at hmi
    have hok := parse_well b m hp
    have hmi' : MsgIs w1 w0.heap.size v m := hmi
    have hma := msgIs_at hmi' hok
    have k2 := fun W (h : Below w1.heap.size w1 W) => spells_any b m v w1.heap.size W hp (hma.below h) h.size
    have k3 := fun W (h : Below w1.heap.size w1 W) => back_any m.int v W ((hma.below h).mono h.size) hok
    have K2 := hide k2
    have K3 := hide k3
    obtain ⟨a1, c1, a2, c2, a3, c3, a4, c4, rfl, _⟩ := hma
    clear k2 k3 hmi hmi' hp hok
    simp only [Msg.int, List.length_map] at K2 K3 ⊢
    obtain ⟨O, hO⟩ : ∃ O, O = Obj.cells #[.int .i64 m.id, .int .i64 m.flags, .slice a1 m.q.length c1, .slice a2 m.a.length c2, .slice a3 m.u.length c3, .slice a4 m.x.length c4] 25 := ⟨_, rfl⟩
    have hal := (Below.refl w1.heap.size w1).alloc (Nat.le_refl _) O
    have hX := heap_alloc_new w1 O
    have hB2 := hB1.alloc (by have := hB1.size; omega) O
    rw [hO] at hal hX hB2
    obtain ⟨R, hR⟩ : ∃ R, w1.heap.size = R := ⟨_, rfl⟩
    rw [hR] at hal hX K2 K3
    have HX := hide hX
    clear hX hO O
    go_wp2_with fail
    refine (unhide K2 _ hal).mono ?_
    rintro e w3 ⟨rfl, hb3⟩
    have hal3 := hal.trans (hb3.mono (by have := hal.size; omega))
    have hB3 := hB2.trans (hb3.mono (by have := hB2.size; omega))
    have HX3 := hide ((hb3.block R (blk_lt (unhide HX))).trans (unhide HX))
    clear hb3 hal hB2 HX
    obtain ⟨⟨b0, b1, b2, b3, b4, b5⟩, _⟩ := cells6 (unhide HX3)
    go_wp2_with fail
    refine (unhide K3 _ hal3).mono ?_
    rintro e w4 ⟨rfl, hb4⟩
    have hB4 := hB3.trans (hb4.mono (by have := hB3.size; omega))
    clear b0 b1 b2 b3 b4 b5
    go_wp2_with fail
    go_ret
    exact ⟨rfl, hB4⟩

end Go.Proofs.Ytdhobdmhnocbgaa
