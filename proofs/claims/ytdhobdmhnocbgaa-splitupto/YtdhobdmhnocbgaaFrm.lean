/-
  Plain: messages one behind the other as a stream; a stream's front, cut.
-/
import Derived.Test.YtdhobdmhnocbgaaCut
namespace Go.Proofs.Ytdhobdmhnocbgaa.Zr

def frameP : List ByteArray → ByteArray
  | [] => ⟨#[]⟩
  | x :: l => wd x.size ++ x ++ frameP l

/-- How many bytes messages take in a stream. -/
def heldP : List ByteArray → Nat
  | [] => 0
  | x :: l => 2 + x.size + heldP l

theorem frame_size : ∀ l, (frameP l).size = heldP l
  | [] => rfl
  | x :: l => by
    show (wd x.size ++ x ++ frameP l).size = 2 + x.size + heldP l
    rw [ByteArray.size_append, ByteArray.size_append, wd_size, frame_size l]

theorem frame_append : ∀ a b, frameP (a ++ b) = frameP a ++ frameP b
  | [], b => by show frameP b = ⟨#[]⟩ ++ frameP b; exact (ByteArray.empty_append).symm
  | x :: a, b => by
    show wd x.size ++ x ++ frameP (a ++ b) = wd x.size ++ x ++ frameP a ++ frameP b
    rw [frame_append a b, ← ByteArray.append_assoc]

theorem held_append : ∀ a b, heldP (a ++ b) = heldP a + heldP b
  | [], b => (Nat.zero_add _).symm
  | x :: a, b => by
    show 2 + x.size + heldP (a ++ b) = 2 + x.size + heldP a + heldP b
    rw [held_append a b]
    omega

theorem num_wd (n : Nat) (t : ByteArray) (h : n < 65536) : num (wd n ++ t) 0 2 = n := by
  have h0 : bt (wd n ++ t) 0 = n / 256 := by rw [bt_append, if_pos (by rw [wd_size]; omega), wd_0 n h]
  have h1 : bt (wd n ++ t) 1 = n % 256 := by rw [bt_append, if_pos (by rw [wd_size]; omega), wd_1 n]
  show 256 * (256 * 0 + bt (wd n ++ t) (0 + 0)) + bt (wd n ++ t) (0 + 1) = n
  rw [h0, h1]
  omega

theorem cut_frame : ∀ (l : List ByteArray) (t : ByteArray), (∀ x, x ∈ l → x.size ≤ 65535) → cutP (frameP l ++ t) 0 = (l ++ (cutP t 0).1, (cutP t 0).2)
  | [], t, _ => by
    show cutP (⟨#[]⟩ ++ t) 0 = _
    rw [show (⟨#[]⟩ : ByteArray) ++ t = t from ByteArray.empty_append]
    rfl
  | x :: l, t, h => by
    have hx := h x List.mem_cons_self
    have ih := cut_frame l t fun y hy => h y (List.mem_cons_of_mem _ hy)
    have e : frameP (x :: l) ++ t = wd x.size ++ (x ++ (frameP l ++ t)) := by
      show wd x.size ++ x ++ frameP l ++ t = _
      rw [ByteArray.append_assoc, ByteArray.append_assoc]
    rw [e]
    have hn := num_wd x.size (x ++ (frameP l ++ t)) (by omega)
    have hs : (wd x.size ++ (x ++ (frameP l ++ t))).size = 2 + (x.size + (frameP l ++ t).size) := by rw [ByteArray.size_append, wd_size, ByteArray.size_append]
    have hc : 0 + 2 ≤ (wd x.size ++ (x ++ (frameP l ++ t))).size ∧ 0 + 2 + num (wd x.size ++ (x ++ (frameP l ++ t))) 0 2 ≤ (wd x.size ++ (x ++ (frameP l ++ t))).size := by
      rw [hn]
      omega
    have t1 : (wd x.size ++ (x ++ (frameP l ++ t))).extract (2 + x.size) (wd x.size ++ (x ++ (frameP l ++ t))).size = frameP l ++ t := by
      have a1 := tail_append (wd x.size ++ x) (frameP l ++ t) (2 + x.size) (by rw [ByteArray.size_append, wd_size]; omega)
      rw [ByteArray.append_assoc] at a1
      rw [a1, ByteArray.size_append, wd_size, extract_self]
      exact ByteArray.empty_append
    have t2 : (wd x.size ++ (x ++ (frameP l ++ t))).extract (0 + 2) (0 + 2 + x.size) = x := by
      refine bt_ext ?_ fun i hi => ?_
      · rw [size_extract' _ _ _ (by omega) (by omega)]
        omega
      · rw [size_extract' _ _ _ (by omega) (by omega)] at hi
        rw [bt_ex _ _ _ _ hi (by omega), bt_append, if_neg (by rw [wd_size]; omega), wd_size, bt_append, if_pos (by omega)]
        congr 1
        omega
    have sh := cut_shift (wd x.size ++ (x ++ (frameP l ++ t))) (2 + x.size) 0 (by omega)
    rw [t1, ih, Nat.add_zero] at sh
    rw [cut_yes hc, hn, t2, show 0 + 2 + x.size = 2 + x.size by omega, sh]
    rfl

/-- A front that ends inside a message. -/
theorem cut_part (x r : ByteArray) (k : Nat) (hx : x.size ≤ 65535) (hk : k < 2 + x.size) : cutP ((wd x.size ++ x ++ r).extract 0 k) 0 = ([], k) := by
  have hs : (wd x.size ++ x ++ r).size = 2 + x.size + r.size := by rw [ByteArray.size_append, ByteArray.size_append, wd_size]
  have hz : ((wd x.size ++ x ++ r).extract 0 k).size = k := by rw [size_extract' _ _ _ (by omega) (by omega)]; omega
  have hno : ¬ (0 + 2 ≤ ((wd x.size ++ x ++ r).extract 0 k).size ∧ 0 + 2 + num ((wd x.size ++ x ++ r).extract 0 k) 0 2 ≤ ((wd x.size ++ x ++ r).extract 0 k).size) := by
    rw [hz]
    rintro ⟨h1, h2⟩
    have e := num_extract (wd x.size ++ x ++ r) 0 k (by omega) 2 (by omega)
    rw [Nat.zero_add] at e
    rw [e, ByteArray.append_assoc, num_wd _ _ (by omega)] at h2
    omega
  rw [cut_no hno, hz]
  rfl

/-- The messages that a front of a stream has whole, and what is left of it. -/
theorem cut_front : ∀ (l : List ByteArray) (k : Nat), (∀ x, x ∈ l → x.size ≤ 65535) → k ≤ heldP l → ∃ g, g ≤ l.length ∧ heldP (l.take g) ≤ k ∧ (∀ h : g < l.length, k < heldP (l.take g) + 2 + l[g].size) ∧ cutP ((frameP l).extract 0 k) 0 = (l.take g, k - heldP (l.take g))
  | [], k, _, hk => by
    have : k = 0 := by simpa [heldP] using hk
    subst this
    refine ⟨0, Nat.le_refl _, Nat.le_refl _, fun h => by simp at h, ?_⟩
    rw [extract_self, cut_no (by rintro ⟨h, _⟩; exact absurd (show 0 + 2 ≤ 0 from h) (by omega))]
    rfl
  | x :: l, k, h, hk => by
    have hx := h x List.mem_cons_self
    by_cases c : k < 2 + x.size
    · refine ⟨0, by omega, Nat.zero_le _, fun _ => ?_, ?_⟩
      · show k < 0 + 2 + x.size
        omega
      · exact cut_part x (frameP l) k hx c
    · obtain ⟨g, g1, g2, g3, g4⟩ := cut_front l (k - (2 + x.size)) (fun y hy => h y (List.mem_cons_of_mem _ hy)) (by
        have : k ≤ 2 + x.size + heldP l := hk
        omega)
      refine ⟨g + 1, by simpa using g1, ?_, fun hg => ?_, ?_⟩
      · show 2 + x.size + heldP (l.take g) ≤ k
        omega
      · have hg' : g < l.length := by simpa using hg
        have := g3 hg'
        show k < 2 + x.size + heldP (l.take g) + 2 + l[g].size
        omega
      · have hz := frame_size (x :: l)
        have hkl : k ≤ 2 + x.size + heldP l := hk
        have hl := frame_size l
        have e : (frameP (x :: l)).extract 0 k = frameP [x] ++ (frameP l).extract 0 (k - (2 + x.size)) := by
          have e0 : frameP [x] = wd x.size ++ x := by show wd x.size ++ x ++ ⟨#[]⟩ = _; exact ByteArray.append_empty
          have z0 : (frameP [x]).size = 2 + x.size := by rw [e0, ByteArray.size_append, wd_size]
          have ea : frameP (x :: l) = frameP [x] ++ frameP l := frame_append [x] l
          have zl : ((frameP l).extract 0 (k - (2 + x.size))).size = k - (2 + x.size) := by rw [size_extract' _ _ _ (by omega) (by omega)]; omega
          refine bt_ext ?_ fun i hi => ?_
          · rw [size_extract' _ _ _ (by omega) (by rw [hz]; exact hk), ByteArray.size_append, z0, zl]
            omega
          · rw [size_extract' _ _ _ (by omega) (by rw [hz]; exact hk)] at hi
            rw [bt_ex _ _ _ _ hi (by rw [hz]; exact hk), ea, bt_append, bt_append, z0]
            by_cases ci : i < 2 + x.size
            · rw [if_pos (by omega), if_pos ci, Nat.zero_add]
            · rw [if_neg (by omega), if_neg ci, bt_ex _ _ _ _ (by omega) (by omega)]
              congr 1
              omega
        rw [e, cut_frame [x] _ (fun y hy => by rw [List.mem_singleton] at hy; subst hy; exact hx), g4]
        show (x :: l.take g, _) = (x :: l.take g, k - (2 + x.size + heldP (l.take g)))
        rw [show k - (2 + x.size) - heldP (l.take g) = k - (2 + x.size + heldP (l.take g)) by omega]

end Go.Proofs.Ytdhobdmhnocbgaa.Zr
