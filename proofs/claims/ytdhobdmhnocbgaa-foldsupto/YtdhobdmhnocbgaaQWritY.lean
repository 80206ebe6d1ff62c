/-
  Walks: the writer's short names (short, name).
-/
import Derived.Test.YtdhobdmhnocbgaaQWritX
namespace Go.Proofs.Ytdhobdmhnocbgaa
open Go.RowKit Zr

/-- What is written has at least as many bytes as tails become known. -/
theorem shF_len (K : List (ByteArray × Nat)) (s : ByteArray) (p : Nat) : ∀ f k, (shF K s p f k).2.length ≤ (shF K s p f k).1.size ∧ (shF K s p f k).1.size ≤ s.size - k + 1 := by
  intro f
  induction f with
  | zero => intro k; exact ⟨Nat.le_refl _, Nat.zero_le _⟩
  | succ f ih =>
    intro k
    rw [shF]
    by_cases c : s.size < k + 2
    · rw [if_pos c]
      exact ⟨Nat.zero_le _, by rw [ByteArray.size_extract]; omega⟩
    · rw [if_neg c]
      cases findK K (s.extract k s.size) with
      | some tgt => exact ⟨Nat.zero_le _, by show (wd _).size ≤ _; rw [wd_size]; omega⟩
      | none =>
        have := ih (k + 1 + bt s k)
        have hl : (learn1 (s.extract k s.size) (p + k)).length ≤ 1 := by unfold learn1; split <;> simp
        have he : (s.extract k (k + 1 + bt s k)).size = min (k + 1 + bt s k) s.size - k := by rw [ByteArray.size_extract]
        simp only [List.length_append, ByteArray.size_append, he]
        have hb := bt_lt s k
        omega

theorem short_len (K : List (ByteArray × Nat)) (s : ByteArray) (p : Nat) : (short K s p).2.length ≤ (short K s p).1.size ∧ (short K s p).1.size ≤ s.size + 1 := shF_len K s p _ 0

/-- Places that a pointer can name. -/
def KOk (K : List (ByteArray × Nat)) : Prop := ∀ q, q ∈ K → q.2 ≤ 16383

theorem KOk.nil : KOk [] := fun q h => by simp at h
theorem learn1_ok (s : ByteArray) (p : Nat) : KOk (learn1 s p) := fun q h => by
  unfold learn1 at h
  split at h
  · simp at h; subst h; assumption
  · simp at h
theorem KOk.append {K l : List (ByteArray × Nat)} (h : KOk K) (h2 : KOk l) : KOk (K ++ l) := fun q hq => by
  rcases List.mem_append.1 hq with h1 | h1
  · exact h q h1
  · exact h2 q h1
theorem shF_ok (K : List (ByteArray × Nat)) (s : ByteArray) (p : Nat) : ∀ f k, KOk (shF K s p f k).2 := by
  intro f
  induction f with
  | zero => intro k; exact KOk.nil
  | succ f ih =>
    intro k
    rw [shF]
    split
    · exact KOk.nil
    · split
      · exact KOk.nil
      · exact (learn1_ok _ _).append (ih _)
theorem short_ok (K : List (ByteArray × Nat)) (s : ByteArray) (p : Nat) : KOk (short K s p).2 := shF_ok K s p _ 0

theorem shF_end (K : List (ByteArray × Nat)) (s : ByteArray) (p f k : Nat) (hf : s.size < k + f) (hk : k ≤ s.size) (c : s.size < k + 2) : shF K s p f k = (s.extract k s.size, []) := by
  cases f with
  | zero => omega
  | succ f => rw [shF, if_pos c]
theorem shF_some (K : List (ByteArray × Nat)) (s : ByteArray) (p f k tgt : Nat) (c : ¬ s.size < k + 2) (h : findK K (s.extract k s.size) = some tgt) : shF K s p (f + 1) k = (wd (49152 + tgt), []) := by
  rw [shF, if_neg c, h]
theorem shF_none (K : List (ByteArray × Nat)) (s : ByteArray) (p f k : Nat) (c : ¬ s.size < k + 2) (h : findK K (s.extract k s.size) = none) :
    shF K s p (f + 1) k = (s.extract k (k + 1 + bt s k) ++ (shF K s p f (k + 1 + bt s k)).1, learn1 (s.extract k s.size) (p + k) ++ (shF K s p f (k + 1 + bt s k)).2) := by
  rw [shF, if_neg c, h]

/-- What is behind a label of a name. -/
theorem tl_step {s : ByteArray} {k : Nat} (h : Tl s k) (c : ¬ s.size < k + 2) : 1 ≤ bt s k ∧ bt s k ≤ 63 ∧ k + 2 + bt s k ≤ s.size ∧ Tl s (k + 1 + bt s k) := by
  cases h with
  | root _ h1 h2 => omega
  | lab _ h1 h2 h3 => have := h3.lt; exact ⟨h1, h2, by omega, h3⟩

set_option maxRecDepth 100000 in
set_option maxHeartbeats 2000000 in
theorem short_w (N R : Nat) (B : ByteArray) (K : List (ByteArray × Nat)) (s : ByteArray) (p : Nat) (w : World) (h : Wr w N R B K) (hK : K.length ≤ 300000) (hO : KOk K) (hp : p ≤ 2000000) (ht : Tl s 0) (hs : s.size ≤ 255) :
    Calls Try.prog 177 #[.pointer (some ⟨R, 0, none⟩), .string s, .int .i64 p] w fun e w' => e = .returned (.string (short K s p).1) ∧ Wr w' N R B (K ++ (short K s p).2) ∧ WFrame N w w' := by
  have hlt := h.lt
  have H := hide h
  have HO := hide hO
  have HT := hide ht
  clear h hO ht
  obtain ⟨r, hr⟩ : ∃ r, short K s p = r := ⟨_, rfl⟩
  rw [hr]
  have HR : Hid (shF K s p (s.size + 1) 0 = r) := hr
  clear hr
  go_enter Try.func177, Try.ntmps177
  go_wp2_with fail
  go_loopg [7] (s.size + 1) (fun g a w' => ∃ (k : Nat) (own : List (ByteArray × Nat)), a = .int .i64 k ∧ s.size < k + g ∧ k ≤ s.size ∧ Hid (Tl s k) ∧ own.length ≤ k ∧ Hid (Wr w' N R B (K ++ own)) ∧ Hid (WFrame N w w') ∧ Hid (∀ q, q ∈ own → s.size - k < q.1.size) ∧ ∃ f, s.size < k + f ∧ Hid (r = (s.extract 0 k ++ (shF K s p f k).1, own ++ (shF K s p f k).2)))
  case atStart => exact ⟨0, [], rfl, by omega, by omega, HT, Nat.le_refl _, by rw [List.append_nil]; exact H, WFrame.refl _ _, fun q hq => by simp at hq, s.size + 1, by omega, by rw [extract_self, empty_append, List.nil_append]; exact (unhide HR).symm⟩
  case round =>
    obtain ⟨k, own, rfl, hg, hks, htk, hol, hW, hF, hown, f, hf, hres⟩ := hrel
    have hWlt := (unhide hW).lt
    by_cases c : s.size < k + 2
    · have hr2 := unhide hres
      rw [shF_end K s p f k hf hks c] at hr2
      simp only [List.append_nil] at hr2
      rw [extract_join s 0 k s.size (Nat.zero_le _) hks (Nat.le_refl _), extract_all] at hr2
      subst hr2
      clear hres HR
      go_wp2_with fail
      refine (has_no _ _ _ _ (by omega) (by omega) (by omega) (by omega) (by omega)).mono ?_
      rintro e w' ⟨rfl, rfl⟩
      go_wp2_with fail
      go_ret
      exact ⟨rfl, unhide hW, unhide hF⟩
    · obtain ⟨t1, t2, t3, t4⟩ := tl_step (unhide htk) c
      obtain ⟨f, rfl⟩ : ∃ g, f = g + 1 := ⟨f - 1, by omega⟩
      have hse : (s.extract k s.size).size = s.size - k := by rw [ByteArray.size_extract]; omega
      have hfk : findK (K ++ own) (s.extract k s.size) = findK K (s.extract k s.size) := findK_append _ _ _ (fun q hq e => by have := unhide hown q hq; rw [e, hse] at this; omega)
      have hlen : (K ++ own).length ≤ 400000 := by rw [List.length_append]; omega
      have hg1 := bt_get s k (by omega)
      cases hfd : findK K (s.extract k s.size) with
      | some tgt =>
        have hr2 := unhide hres
        rw [shF_some K s p f k tgt c hfd] at hr2
        have hto := unhide HO _ (findK_mem K _ tgt hfd)
        simp only at hto
        rw [hfd] at hfk
        have HFK := hide hfk
        have HR2 := hide hr2
        have HL := hide hlen
        clear hfk hr2 hlen hfd hres HR
        go_wp2_with fail
        refine (has_yes _ _ _ _ (by omega) (by omega) (by omega) (by omega)).mono ?_
        rintro e w' ⟨rfl, rfl⟩
        go_wp2_with fail
        refine (find_w N R B (K ++ own) _ _ (unhide hW) (unhide HL)).mono ?_
        rw [unhide HFK]
        rintro e w' ⟨rfl, rfl⟩
        simp only [foundI]
        go_wp2_with fail
        obtain ⟨z, hz⟩ : ∃ z, wd (49152 + tgt) = z := ⟨_, rfl⟩
        have hwz := wd_size (49152 + tgt)
        have Key : Hid (∀ w, Calls Try.prog 96 #[.int .i64 (IntKind.i64.wrap (49152 + (tgt : Int)))] w fun e w' => e = .returned (.string z) ∧ Below w.heap.size w w') := fun w => by rw [← hz, IntWalk.i64_in _ (by omega)]; exact word_at _ _ w (by omega) (by omega)
        rw [hz] at hwz HR2
        clear hz
        have he0 : (s.extract 0 k).size ≤ 255 := by rw [ByteArray.size_extract]; omega
        go_region_with (first | (go_at_call 96; refine (unhide Key _).mono ?_; rintro e w1 ⟨rfl, hb1⟩))
        all_goals go_wp2_with fail
        all_goals go_ret
        all_goals
          have hb2 := below_undrew hb1
          rw [unhide HR2]
          refine ⟨rfl, ?_, (unhide hF).trans (WFrame.of_below hb2)⟩
          rw [List.append_nil]
          exact (unhide hW).below hb2
      | none =>
        have hr2 := unhide hres
        rw [shF_none K s p f k c hfd] at hr2
        rw [hfd] at hfk
        have HFK := hide hfk
        have HR2 := hide hr2
        have HL := hide hlen
        clear hfk hr2 hlen hfd hres HR
        go_wp2_with fail
        refine (has_yes _ _ _ _ (by omega) (by omega) (by omega) (by omega)).mono ?_
        rintro e w' ⟨rfl, rfl⟩
        go_wp2_with fail
        refine (find_w N R B (K ++ own) _ _ (unhide hW) (unhide HL)).mono ?_
        rw [unhide HFK]
        rintro e w' ⟨rfl, rfl⟩
        simp only [foundI]
        go_wp2_with fail
        refine (learn_w N R B (K ++ own) _ (p + k) _ (unhide hW) (unhide HL) (by omega)).mono ?_
        rintro e w1 ⟨rfl, hW1, hF1⟩
        have HW1 := hide hW1
        have HF1 := hide hF1
        clear hW1 hF1
        go_wp2_with fail
        have hl1 : (learn1 (s.extract k s.size) (p + k)).length ≤ 1 := by unfold learn1; split <;> simp
        go_roundg (gk - 1)
        case measure => omega
        case rel =>
          refine ⟨k + 1 + bt s k, own ++ learn1 (s.extract k s.size) (p + k), by go_num, by omega, by omega, t4, by rw [List.length_append]; omega, ?_, (unhide hF).trans (unhide HF1), ?_, f, by omega, ?_⟩
          · show Wr _ _ _ _ _
            rw [← List.append_assoc]
            exact unhide HW1
          · intro q hq
            rcases List.mem_append.1 hq with h1 | h1
            · have := unhide hown q h1; omega
            · unfold learn1 at h1
              split at h1
              · simp only [List.mem_singleton] at h1
                subst h1
                show _ < (s.extract k s.size).size
                omega
              · simp at h1
          · show _ = _
            rw [unhide HR2, ← append_assoc', extract_join s 0 k _ (Nat.zero_le _) (by omega) (by omega), List.append_assoc]

theorem tl_ok {s : ByteArray} (h : wholeB s = true) : Tl s 0 ∧ s.size ≤ 255 := (whole_iff s).1 h

set_option maxRecDepth 100000 in
set_option maxHeartbeats 1000000 in
theorem name_w (N R : Nat) (B : ByteArray) (K : List (ByteArray × Nat)) (s : ByteArray) (w : World) (h : Wr w N R B K) (hK : K.length ≤ 300000) (hO : KOk K) (hB : B.size ≤ 390000) (hs : wholeB s = true) :
    Calls Try.prog 153 #[.pointer (some ⟨R, 0, none⟩), .string s] w fun e w' => e = .returned (.tuple #[]) ∧ Wr w' N R (B ++ (short K s B.size).1) (K ++ (short K s B.size).2) ∧ WFrame N w w' := by
  obtain ⟨ht, h255⟩ := tl_ok hs
  have key := fun w (h : Wr w N R B K) => short_w N R B K s B.size w h hK hO (by omega) ht h255
  have hlen := (short_len K s B.size).2
  have Key := hide key
  clear key hO ht hs
  generalize short K s B.size = r at *
  obtain ⟨x, l⟩ := r
  simp only at hlen Key ⊢
  have H := hide h
  obtain ⟨vb, ab, cb, vk, ak, ck, hR, hN, rfl, rfl, o1, o2⟩ := h
  obtain ⟨c0, c1, z0, z1⟩ := wr_cells hR
  clear hR o1 o2
  go_enter Try.func153, Try.ntmps153
  go_wp2_with fail
  refine (unhide Key _ (unhide H)).mono ?_
  rintro e w1 ⟨rfl, h1, f1⟩
  have H1 := hide h1
  have F1 := hide f1
  clear h1 f1
  go_wp2_with fail
  refine (bytes_w N R B (K ++ l) x _ (unhide H1) (by omega) (by omega)).mono ?_
  rintro e w2 ⟨rfl, h2, f2⟩
  have H2 := hide h2
  have F2 := hide f2
  clear h2 f2
  go_wp2_with fail
  go_end0
  exact ⟨rfl, unhide H2, (unhide F1).trans (unhide F2)⟩

end Go.Proofs.Ytdhobdmhnocbgaa
