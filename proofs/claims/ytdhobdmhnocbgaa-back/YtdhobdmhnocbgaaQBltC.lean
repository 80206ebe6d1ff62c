/-
  Walks over zonekeep: Back.
-/
import Derived.Test.YtdhobdmhnocbgaaQBltB
namespace Go.Proofs.Ytdhobdmhnocbgaa
open Go.RowKit Zr

set_option maxRecDepth 100000 in
set_option maxHeartbeats 1000000 in
theorem back_law (a : Option Addr) (n c : Nat) (w : World) (hraw : RawAt w w.heap.size a n) (hn : n ≤ 9223372036854775807) :
    Calls Try.prog 5 #[.slice a n c] w fun e w' => e = .returned (.bool true) ∧ Below w.heap.size w w' := by
  have key := built_any a n c w hraw hn
  have Key := hide key
  clear key hraw hn
  go_enter Try.func5, Try.ntmps5
  go_wp2_with fail
  refine (unhide Key).mono ?_
  rintro e w1 ⟨m, v, hok, rfl, hm, hb⟩
  have hal : ∀ O, Below w1.heap.size w1 (w1.alloc O) := fun O => (Below.refl w1.heap.size w1).alloc (Nat.le_refl _) O
  have key2 := fun O => back_any m v (w1.alloc O) ((hm.below (hal O)).mono (hal O).size) hok
  have hb2 : ∀ O, Below w.heap.size w (w1.alloc O) := fun O => hb.trans ((hal O).mono hb.size)
  have Key2 := hide key2
  have HB2 := hide hb2
  obtain ⟨a1, c1, a2, c2, a3, c3, a4, c4, rfl, _⟩ := hm
  clear key2 Key hal hb hb2 hok
  go_wp2_with fail
  refine (unhide Key2 _).mono ?_
  rintro e w3 ⟨rfl, hb3⟩
  have HB3 := hide ((unhide HB2 _).trans (hb3.mono (unhide HB2 _).size))
  clear hb3 HB2 Key2
  go_wp2_with fail
  go_ret
  exact ⟨rfl, unhide HB3⟩

end Go.Proofs.Ytdhobdmhnocbgaa
