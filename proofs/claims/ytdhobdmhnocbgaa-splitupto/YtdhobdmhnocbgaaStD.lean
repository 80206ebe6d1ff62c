/-
  Walks: streams: the calls of package zone; zonekeep's helpers.
-/
import Derived.Test.YtdhobdmhnocbgaaStC
namespace Go.Proofs.Ytdhobdmhnocbgaa
open Go.RowKit Zr

set_option maxHeartbeats 400000 in
theorem frame_z (l : List ByteArray) (a : Option Addr) (c N : Nat) (w : World) (hrow : RowAt w N a (stC l)) (hN : N ≤ w.heap.size) (hl : l.length ≤ 33554432) (hz : heldP l ≤ 67108864) :
    Calls Try.prog 22 #[.slice a l.length c] w fun r w' => ∃ s e, r = .returned (.tuple #[.string s, .int .i64 e]) ∧ FrmIs l s e ∧ Below w.heap.size w w' := by
  have key := frame_s l a c N w hrow hN hl hz
  have K := hide key
  clear key hrow
  go_enter Try.func22, Try.ntmps22
  go_wp2_with fail
  refine (unhide K).mono ?_
  rintro r w1 ⟨s, e, rfl, h1, h2⟩
  have H1 := hide h1
  have H2 := hide h2
  clear h1 h2
  go_wp2_with fail
  go_ret2
  exact ⟨_, _, rfl, unhide H1, unhide H2⟩

theorem left_nil : leftP ⟨#[]⟩ = ⟨#[]⟩ := left_none fun h => by
  have h1 := size_ge ⟨#[]⟩
  unfold isWhl at h
  exact absurd (show sizeP ⟨#[]⟩ ≤ 0 from h) (by omega)

set_option maxHeartbeats 400000 in
theorem newFeed_z (w : World) : Calls Try.prog 23 #[] w fun r w' => r = .returned (.pointer (some ⟨w.heap.size, 0, none⟩)) ∧ w'.heap[w.heap.size]? = some (fdr ⟨#[]⟩ ⟨#[]⟩) ∧ w'.heap.size = w.heap.size + 1 ∧ Below w.heap.size w w' := by
  go_enter Try.func23, Try.ntmps23
  go_wp2_with fail
  go_ret
  exact ⟨rfl, heap_alloc_new _ _, by simp, (Below.refl _ _).alloc (Nat.le_refl _) _⟩

theorem fd_new {w : World} {R : Nat} (h : w.heap[R]? = some (fdr ⟨#[]⟩ ⟨#[]⟩)) : FdAt w R ⟨#[]⟩ := ⟨_, _, h, by rw [left_nil]; rfl⟩

set_option maxHeartbeats 400000 in
theorem push_z (R : Nat) (p chunk : ByteArray) (w : World) (h : FdAt w R p) (hz : p.size + chunk.size ≤ 67108864) :
    Calls Try.prog 26 #[.pointer (some ⟨R, 0, none⟩), .string chunk] w fun r w' => PushPost w R p chunk r w' := by
  have key := push_s R p chunk w h hz
  obtain ⟨e, l, hR, _⟩ := h
  have hlt := blk_lt hR
  have K := hide key
  clear key hR
  go_enter Try.func26, Try.ntmps26
  go_wp2_with fail
  refine (unhide K).mono ?_
  rintro r w1 ⟨L, a, c, h1, rfl, h2, h3, h4⟩
  have H : Hid (PushPost w R p chunk (.returned (.slice a L.length c)) w1) := hide ⟨L, a, c, h1, rfl, h2, h3, h4⟩
  clear h1 h2 h3 h4
  go_wp2_with fail
  go_ret
  exact unhide H

set_option maxHeartbeats 400000 in
theorem left_z (R : Nat) (p : ByteArray) (w : World) (h : FdAt w R p) (hz : p.size ≤ 67108864) :
    Calls Try.prog 27 #[.pointer (some ⟨R, 0, none⟩)] w fun r w' => r = .returned (.int .i64 ((cutP p 0).2 : Nat)) ∧ ∃ n, w' = w.drewN n := by
  obtain ⟨e, l, hR, hel⟩ := h
  have hs : e.size + l.size = (cutP p 0).2 := by rw [← left_size, ← hel, ByteArray.size_append]
  have hle := cut_le p 0
  have key := left_s R e l w hR (by omega)
  have hi : ((e.size : Int) + l.size) = ((cutP p 0).2 : Nat) := by omega
  rw [hi] at key
  have K := hide key
  obtain ⟨c0, c1, z0, z1⟩ := fdr_cells hR
  generalize (cutP p 0).2 = n at *
  clear key hR hel hs hi
  go_enter Try.func27, Try.ntmps27
  go_wp2_with fail
  refine (unhide K).mono ?_
  rintro r w1 ⟨rfl, m, rfl⟩
  go_wp2_with fail
  go_ret
  exact ⟨rfl, m, rfl⟩

set_option maxHeartbeats 1000000 in
theorem held_k (l : List ByteArray) (a : Option Addr) (c N n : Nat) (w : World) (h1 : RowAt w N a (stC l)) (hn : n ≤ l.length) (hl : l.length ≤ 33554432) (hz : heldP l ≤ 67108864) :
    Calls Try.prog 24 #[.slice a l.length c, .int .i64 n] w fun r w' => r = .returned (.int .i64 (heldP (l.take n) : Nat)) ∧ ∃ m, w' = w.drewN m := by
  have H1 := hide h1
  have HZ := hide (fun j (h : j < l.length) => held_take l j h)
  have HZ2 := hide (fun j => held_take_le l j)
  clear h1
  go_enter Try.func24, Try.ntmps24
  go_wp2_with fail
  go_loopw [5, 6] (fun v i w' => ∃ j k m : Nat, j ≤ n ∧ i = .int .i64 j ∧ v = .int .i64 k ∧ Hid (k = heldP (l.take j)) ∧ w' = w.drewN m) (fun _ i _ => n - (intOf i).toNat)
  case atStart => exact ⟨0, 0, 0, Nat.zero_le _, rfl, rfl, hide rfl, rfl⟩
  case round =>
    obtain ⟨j, k, m, hj, rfl, rfl, hk, rfl⟩ := hrel
    have hkl := unhide HZ2 j
    rw [← unhide hk] at hkl
    by_cases cj : j < n
    · obtain ⟨b, o, rfl, _, x0⟩ := row_s (unhide H1) j (by omega)
      have hsu := unhide HZ j (by omega)
      have hle := unhide HZ2 (j + 1)
      rw [hsu, ← unhide hk] at hle
      rw [← unhide hk] at hsu
      have HSU := hide hsu
      clear hsu hk
      generalize l[j] = x at *
      go_wp2_with fail
      refine ⟨⟨j + 1, k + 2 + x.size, m, by omega, by go_num, by go_num, hide (unhide HSU).symm, rfl⟩, by simp [intOf]; omega⟩
    · have ej : j = n := by omega
      subst ej
      have ek := unhide hk
      subst ek
      go_wp2_with fail
      go_ret
      exact ⟨rfl, m, rfl⟩

set_option maxHeartbeats 400000 in
theorem pick_k (c : Int) (n : Nat) (v : Int) (w : World) (h1 : -9223372036854775808 ≤ c) (h2 : c < 9223372036854775808) (hn : 0 < n) (hn2 : n ≤ 4611686018427387904) (hv : v = n) :
    Calls Try.prog 25 #[.int .i64 c, .int .i64 v] w fun e w' => (∃ r : Nat, r < n ∧ e = .returned (.int .i64 r)) ∧ w' = w := by
  subst hv
  have hz : ¬ ((n : Int) = 0) := by omega
  have hz1 : ¬ ((n : Int) = -1) := by omega
  have key : ∀ d : Int, 0 ≤ d → ∃ r : Nat, r < n ∧ Int.tmod d n = r := fun d hd => by
    have a1 := Int.tmod_nonneg (n : Int) hd
    have a2 := Int.tmod_lt_of_pos d (show (0 : Int) < n by omega)
    exact ⟨(Int.tmod d n).toNat, by omega, by omega⟩
  by_cases hc : c < 0
  · obtain ⟨r, hr, er⟩ := key (-(c + 1)) (by omega)
    go_enter Try.func25, Try.ntmps25
    go_wp2_with fail
    go_ret
    exact ⟨⟨r, hr, rfl⟩, rfl⟩
  · obtain ⟨r, hr, er⟩ := key c (by omega)
    go_enter Try.func25, Try.ntmps25
    go_wp2_with fail
    go_ret
    exact ⟨⟨r, hr, rfl⟩, rfl⟩

end Go.Proofs.Ytdhobdmhnocbgaa
