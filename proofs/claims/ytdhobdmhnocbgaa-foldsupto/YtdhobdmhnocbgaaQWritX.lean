/-
  Walks: the writer's short names (find, learn, word, short, name).
-/
import Derived.Test.YtdhobdmhnocbgaaQWritW
import Derived.Test.YtdhobdmhnocbgaaQRefD
namespace Go.Proofs.Ytdhobdmhnocbgaa
open Go.RowKit Zr

/-- What find answers. -/
def foundI (o : Option Nat) : Int := match o with
  | some h => h
  | none => -1

set_option maxHeartbeats 1000000 in
theorem find_w (N R : Nat) (B : ByteArray) (K : List (ByteArray × Nat)) (s : ByteArray) (w : World) (h : Wr w N R B K) (hK : K.length ≤ 400000) :
    Calls Try.prog 190 #[.pointer (some ⟨R, 0, none⟩), .string s] w fun e w' => e = .returned (.int .i64 (foundI (findK K s))) ∧ w' = w := by
  obtain ⟨vb, ab, cb, vk, ak, ck, hR, hN, rfl, rfl, o1, o2⟩ := h
  obtain ⟨c0, c1, z0, z1⟩ := wr_cells hR
  have O2 := hide o2
  clear hR o1 o2
  obtain ⟨v, hv⟩ : ∃ v, foundI (findK K s) = v := ⟨_, rfl⟩
  rw [hv]
  have HV := hide hv
  clear hv
  go_enter Try.func190, Try.ntmps190
  go_wp2_with fail
  go_loop [5] (fun i => ∃ j : Nat, j ≤ K.length ∧ i = .int .i64 j ∧ Hid (∀ k (hk : k < K.length), k < j → K[k].1 ≠ s)) (fun i => K.length - (intOf i).toNat)
  case atStart => exact ⟨0, Nat.zero_le _, rfl, fun k _ hk => by omega⟩
  case round =>
    obtain ⟨j, hj, rfl, hno⟩ := hrel
    by_cases cj : j < K.length
    · obtain ⟨g, rfl, _, _, hcap⟩ := owns_form (unhide O2) (by omega)
      obtain ⟨q0, q1⟩ := tcells_at K j cj
      have x0 := owns_cell (unhide O2) _ _ q0
      have x1 := owns_cell (unhide O2) _ _ q1
      clear q0 q1
      by_cases ce : K[j].1 = s
      · have hV := unhide HV
        rw [findK_at K s j cj (fun k hk => unhide hno k (by omega) hk) ce] at hV
        have hV' : (K[j].2 : Int) = v := hV
        have he : (K[j].1.toList == s.toList) = true := by rw [bytes_eqb]; simp [ce]
        have HV2 := hide hV'
        clear hV hV' ce
        generalize K[j].1 = kn at *
        generalize K[j].2 = kh at *
        go_wp2_with fail
        go_ret
        exact ⟨by rw [unhide HV2]; rfl, rfl⟩
      · have he : (K[j].1.toList == s.toList) = false := by rw [bytes_eqb]; simp [ce]
        have hno2 : Hid (∀ k (hk : k < K.length), k < j + 1 → K[k].1 ≠ s) := fun k hk hkj => by
          by_cases hkk : k = j
          · subst hkk; exact ce
          · exact unhide hno k hk (by omega)
        clear ce
        generalize K[j].1 = kn at *
        generalize K[j].2 = kh at *
        go_wp2_with fail
        go_round
        case rel => exact ⟨j + 1, by omega, by go_num, hno2⟩
        case measure => simp [intOf]; omega
    · have hV := unhide HV
      rw [findK_none K s (fun k hk => unhide hno k hk (by omega))] at hV
      have HV2 : Hid ((-1 : Int) = v) := hV
      clear hV
      go_wp2_with fail
      go_ret
      exact ⟨by rw [← unhide HV2]; rfl, rfl⟩

theorem cell_two_new (w : World) (x0 x1 : Value) (t : TypeId) (B : Nat) (hB : B = w.heap.size) : ∀ j u, [x0, x1][j]? = some u → (w.alloc (.cells #[x0, x1] t)).cell? ((⟨B, 0, none⟩ : Addr).add j) = some u := by
  subst hB
  exact World.news_of_block (cs := #[x0, x1]) (heap_alloc_new w _)

set_option maxRecDepth 100000 in
set_option maxHeartbeats 1000000 in
theorem learn_w (N R : Nat) (B : ByteArray) (K : List (ByteArray × Nat)) (s : ByteArray) (p : Nat) (w : World) (h : Wr w N R B K) (hK : K.length ≤ 400000) (hp : p ≤ 4000000) :
    Calls Try.prog 191 #[.pointer (some ⟨R, 0, none⟩), .string s, .int .i64 p] w fun e w' => e = .returned (.tuple #[]) ∧ Wr w' N R B (K ++ learn1 s p) ∧ WFrame N w w' := by
  by_cases cp : p ≤ 16383
  · have hl : learn1 s p = [(s, p)] := by unfold learn1; rw [if_pos cp]
    rw [hl]
    clear hl
    obtain ⟨vb, ab, cb, vk, ak, ck, hR, hN, rfl, rfl, o1, o2⟩ := h
    obtain ⟨c0, c1, z0, z1⟩ := wr_cells hR
    have HR := hide hR
    have hlt := blk_lt hR
    obtain ⟨i0, hi, hz0, hz1, hz2⟩ := info_parts Try.info201
    have Hi := hide hi
    have Hz0 := hide hz0
    have Hz1 := hide hz1
    have Hz2 := hide hz2
    have O1 := hide o1
    have O2 := hide o2
    clear hi hz0 hz1 hz2 hR o1 o2
    go_enter Try.func191, Try.ntmps191
    go_wp2_with (at_builtin; refine wpList_append_row _ rfl _ _ 115 115 rfl N 201 i0 (.agg #[.string ⟨#[]⟩, .int .i64 0]) 2 24 Try.underlying115 (unhide Hi) (unhide Hz0) (unhide Hz1) (unhide Hz2) rfl (.slice ak K.length ck) K.length (tcells K) (by rfl) ((unhide O2).alloc _) (.slice (some ⟨w.heap.size, 0, none⟩) 1 1) 1 [.string s, .int .i64 p] (by rfl) (Src.ofSlice _ Try.underlying115 ⟨w.heap.size, 0, none⟩ 1 1 _ rfl (cell_two_new _ _ _ _ _ rfl) (fun x hx => by simp at hx; rcases hx with rfl | rfl <;> rfl)) (by unfold maxLen; omega) (by omega) (by simp; omega) ?_; intro a1 e1 w1 hown1 hgrow1 hat1; have hRa := (heap_alloc_old w (.cells #[.string s, .int .i64 p] 201) hlt).trans (unhide HR); have hR1 := blk_kind ((unhide O2).alloc _) hgrow1 hRa (by decide); have hO1 := owns_kind ((unhide O2).alloc _) hgrow1 ((unhide O1).alloc _) (by decide); have hfr := WFrame.of_append ((unhide O2).alloc _) hgrow1 (.inr (.inl rfl)); obtain ⟨d0, d1, y0, y1⟩ := wr_cells hR1; have HR1 := hide hR1; have HO1 := hide hO1; have HF := hide hfr; have HO2 := hide hown1; clear c0 c1 z0 z1 hR1 hO1 hfr hown1 hgrow1 hat1 hRa)
    go_end0
    refine ⟨rfl, ?_, ((WFrame.of_below ((Below.refl _ _).alloc (Nat.le_refl _) _)).trans (unhide HF)).trans (WFrame.of_grown (grown_set _ R 1 _) hN (unhide HR1) (.inr (.inr rfl)))⟩
    refine ⟨_, ab, cb, _, a1, e1, (blk_set (unhide HR1) 1 _).trans rfl, hN, rfl, by simp, ?_, ?_⟩
    · exact owns_set_kind (unhide HO1) (unhide HR1) (by decide) 1 _
    · rw [tcells_append, List.length_append]
      exact owns_set_kind (unhide HO2) (unhide HR1) (by decide) 1 _
  · have hl : learn1 s p = [] := by unfold learn1; rw [if_neg cp]
    rw [hl, List.append_nil]
    have H := hide h
    clear h hl
    go_enter Try.func191, Try.ntmps191
    go_wp2_with fail
    go_end0
    exact ⟨rfl, unhide H, WFrame.refl _ _⟩

set_option maxHeartbeats 400000 in
theorem word_w (N R : Nat) (B : ByteArray) (K : List (ByteArray × Nat)) (n : Nat) (w : World) (h : Wr w N R B K) (hB : B.size ≤ 399998) (hn : n < 65536) :
    Calls Try.prog 121 #[.pointer (some ⟨R, 0, none⟩), .int .i64 n] w fun e w' => e = .returned (.tuple #[]) ∧ Wr w' N R (B ++ wd n) K ∧ WFrame N w w' := by
  have H := hide h
  clear h
  go_enter Try.func121, Try.ntmps121
  go_wp2_with fail
  refine (word_any n _ hn).mono ?_
  rintro e w1 ⟨rfl, hb1⟩
  have hz := wd_size n
  have Hz := hide hz
  clear hz
  obtain ⟨s, hs⟩ : ∃ s, wd n = s := ⟨_, rfl⟩
  rw [hs] at Hz ⊢
  have Hs := hide hs
  clear hs
  go_wp2_with fail
  refine (bytes_w N R B K s _ ((unhide H).below hb1) (by omega) (by rw [unhide Hz]; omega)).mono ?_
  rintro e w2 ⟨rfl, h2, h3⟩
  have H2 := hide h2
  have H3 := hide h3
  clear h2 h3
  go_wp2_with fail
  go_end0
  exact ⟨rfl, by rw [unhide Hs]; exact unhide H2, (WFrame.of_below hb1).trans (unhide H3)⟩

end Go.Proofs.Ytdhobdmhnocbgaa
