/-
  Walks over zonekeep: data of a type.
-/
import Derived.Test.YtdhobdmhnocbgaaQRolB
import Derived.Test.YtdhobdmhnocbgaaQRefP
namespace Go.Proofs.Ytdhobdmhnocbgaa
open Go.RowKit Zr

theorem num1 (b : ByteArray) (i : Nat) : num b i 1 = bt b i := by simp only [num]; rw [Nat.add_zero]; omega
theorem num2 (b : ByteArray) (i : Nat) : num b i 2 = 256 * bt b i + bt b (i + 1) := by simp only [num]; rw [Nat.add_zero]; omega

/-- A piece more at the end of a row. -/
theorem row_push (s x : ByteArray) (q : Nat) (hq : q < 256) (hx : x.size = q) : ∀ (f k : Nat), s.size < k + f → k ≤ s.size → rowF s 0 1 f k = true → rowF (s ++ (⟨#[UInt8.ofNat q]⟩ ++ x)) 0 1 (f + 1) k = true := by
  have hz : (s ++ ((⟨#[UInt8.ofNat q]⟩ : ByteArray) ++ x)).size = s.size + 1 + q := by
    rw [ByteArray.size_append, ByteArray.size_append, hx]; show s.size + (1 + q) = _; omega
  have hb : bt (s ++ ((⟨#[UInt8.ofNat q]⟩ : ByteArray) ++ x)) s.size = q := by
    rw [bt_append, if_neg (by omega), Nat.sub_self, bt_append, if_pos (show 0 < (⟨#[UInt8.ofNat q]⟩ : ByteArray).size by show 0 < 1; omega)]
    show (UInt8.ofNat q).toNat = q
    rw [UInt8.toNat_ofNat_of_lt' (show q < 256 by omega)]
  intro f
  induction f with
  | zero => intro k h1 h2; omega
  | succ f ih =>
    intro k h1 h2 h
    rw [rowF] at h ⊢
    simp only [Nat.add_zero] at h ⊢
    by_cases c : s.size ≤ k
    · have e : k = s.size := by omega
      subst e
      rw [if_neg (by omega), if_neg (by omega), if_neg (by omega), num1, hb, if_neg (by omega)]
      cases f with
      | zero => rw [rowF, if_pos (by omega)]
      | succ f => rw [rowF, if_pos (by omega)]
    · rw [if_neg c] at h
      have e : num (s ++ (⟨#[UInt8.ofNat q]⟩ ++ x)) k 1 = num s k 1 := by rw [num1, num1, bt_append, if_pos (by omega)]
      rw [if_neg (by omega), if_neg (by omega), if_neg (by omega), e]
      rw [if_neg (by omega), if_neg (by omega)] at h
      by_cases c2 : s.size < k + 1 + num s k 1
      · rw [if_pos c2] at h; simp at h
      · rw [if_neg c2] at h
        rw [if_neg (by omega)]
        exact ih _ (by omega) (by omega) h

theorem rowB_push (s x : ByteArray) (q : Nat) (hq : q < 256) (hx : x.size = q) (h : rowB s 0 1 = true) : rowB (s ++ ⟨#[UInt8.ofNat q]⟩ ++ x) 0 1 = true := by
  unfold rowB at h ⊢
  rw [append_assoc']
  have h1 := row_push s x q hq hx (s.size + 1) 0 (by omega) (by omega) h
  have hz : (s ++ ((⟨#[UInt8.ofNat q]⟩ : ByteArray) ++ x)).size = s.size + 1 + q := by
    rw [ByteArray.size_append, ByteArray.size_append, hx]; show s.size + (1 + q) = _; omega
  have h2 := row_push s x q hq hx (s.size + 1 + q) 0 (by omega) (by omega) (by rw [rowF_fuel s 0 1 (by omega) _ (s.size + 1) 0 (by omega) (by omega)]; exact h)
  rw [hz]
  exact h2

theorem row_opt (y x : ByteArray) (q : Nat) (hq : q < 8) (hy : y.size = 2) (hx : x.size = q) : rowB (y ++ ⟨#[0, UInt8.ofNat q]⟩ ++ x) 2 2 = true := by
  have hz0 : (⟨#[0, UInt8.ofNat q]⟩ : ByteArray).size = 2 := rfl
  have hz : (y ++ (⟨#[0, UInt8.ofNat q]⟩ : ByteArray) ++ x).size = 4 + q := by
    rw [ByteArray.size_append, ByteArray.size_append, hx, hy, hz0]
  have b0 : bt (y ++ (⟨#[0, UInt8.ofNat q]⟩ : ByteArray) ++ x) 2 = 0 := by
    rw [bt_append, if_pos (by rw [ByteArray.size_append, hy, hz0]; omega), bt_append, if_neg (by omega), hy]; rfl
  have b1 : bt (y ++ (⟨#[0, UInt8.ofNat q]⟩ : ByteArray) ++ x) 3 = q := by
    rw [bt_append, if_pos (by rw [ByteArray.size_append, hy, hz0]; omega), bt_append, if_neg (by omega), hy]
    show (UInt8.ofNat q).toNat = q
    rw [UInt8.toNat_ofNat_of_lt' (show q < 256 by omega)]
  have hn : num (y ++ (⟨#[0, UInt8.ofNat q]⟩ : ByteArray) ++ x) 2 2 = q := by rw [num2, b0, b1]; omega
  unfold rowB
  rw [hz, show 4 + q + 1 = (3 + q) + 1 + 1 by omega, rowF, hz, if_neg (by omega), if_neg (by omega), if_neg (by omega), Nat.zero_add, hn, if_neg (by omega), rowF, hz, if_pos (by omega)]

/-- What data answer. -/
def DataOf (w : World) (N R : Nat) (a : Option Addr) (n c : Nat) (K : List ByteArray) (t : Nat) (e : Ending) (w' : World) : Prop :=
  ∃ (d : ByteArray) (K' : List ByteArray), wellD t d ∧ e = .returned (.string d) ∧ Ro w' N R a n c K' ∧ K'.length ≤ K.length + 2 ∧ RFrame N w w'

theorem two_row (w : World) (m : Nat) (h : m < 256) : (w.alloc (.cells #[.int .u8 0, .int .u8 m] 5)).ownsRow w.heap.size 5 1 (.slice (some ⟨w.heap.size, 0, none⟩) 2 2) (⟨#[0, UInt8.ofNat m]⟩ : ByteArray).size (byteCells ⟨#[0, UInt8.ofNat m]⟩) := by
  have hx : byteCells ⟨#[0, UInt8.ofNat m]⟩ = [Value.int .u8 0, Value.int .u8 (m : Nat)] := by
    show [Value.int .u8 0, Value.int .u8 ((UInt8.ofNat m).toNat : Nat)] = _
    rw [UInt8.toNat_ofNat_of_lt' (by simpa using h)]
  rw [hx]
  exact ⟨rfl, .inr ⟨w.heap.size, 2, #[.int .u8 0, .int .u8 m], rfl, Nat.le_refl _, heap_alloc_new _ _, Nat.le_refl _, by unfold maxLen; omega, rfl, rfl⟩⟩

set_option maxRecDepth 100000 in
set_option maxHeartbeats 4000000 in
theorem data_any (N R : Nat) (a : Option Addr) (n c : Nat) (K : List ByteArray) (t : Nat) (v : Int) (w : World) (h : Ro w N R a n c K) (hK : K.length ≤ 900) (hv : v = t) :
    Calls Try.prog 92 #[.pointer (some ⟨R, 0, none⟩), .int .i64 v] w fun e w' => DataOf w N R a n c K t e w' := by
  subst hv
  have keyN := fun (K : List ByteArray) W (h : Ro W N R a n c K) (m : Nat) (v : Int) (h1 : 0 < m) (h2 : m ≤ 100000) (hv : v = m) => next_any N R a n c K m v W h h1 (by omega) hv
  have keyB := fun (K : List ByteArray) W (h : Ro W N R a n c K) (m : Nat) (v : Int) (hm : m ≤ 100000) (hv : v = m) => bytes_any N R a n c K m v W h hm hv
  have keyM := fun (K : List ByteArray) W (h : Ro W N R a n c K) (hK : K.length ≤ 1000) => rolls_name N R a n c K W h hK
  have KN := hide keyN
  have KB := hide keyB
  have KM := hide keyM
  have H := hide h
  clear keyN keyB keyM h
  by_cases c1 : t = 1
  · subst c1
    go_enter Try.func92, Try.ntmps92
    go_wp2_with fail
    refine (unhide KB K _ (unhide H) 4 4 (by omega) rfl).mono ?_
    rintro e w1 ⟨⟨s, hs, rfl⟩, hR1, hF1⟩
    go_wp2_with fail
    go_ret
    exact ⟨s, K, (wellD_flat s 1 (by omega) (by omega)).2 ⟨by omega, by simp [flatB, hs]⟩, rfl, hR1, by omega, hF1⟩
  by_cases c2 : t = 28
  · subst c2
    go_enter Try.func92, Try.ntmps92
    go_wp2_with fail
    refine (unhide KB K _ (unhide H) 16 16 (by omega) rfl).mono ?_
    rintro e w1 ⟨⟨s, hs, rfl⟩, hR1, hF1⟩
    go_wp2_with fail
    go_ret
    exact ⟨s, K, (wellD_flat s 28 (by omega) (by omega)).2 ⟨by omega, by simp [flatB, hs]⟩, rfl, hR1, by omega, hF1⟩
  by_cases c3 : t = 2 ∨ t = 5 ∨ t = 12
  · have hw : ∀ s, wholeB s = true → wellD t s := fun s hs => (wellD_one s t c3).2 hs
    have HW := hide hw
    clear hw
    rcases c3 with rfl | rfl | rfl
    all_goals
      go_enter Try.func92, Try.ntmps92
      go_wp2_with fail
      refine (unhide KM K _ (unhide H) (by omega)).mono ?_
      rintro e w1 ⟨s, hs, rfl, hR1, hF1⟩
      go_wp2_with fail
      go_ret
      exact ⟨s, _, unhide HW s hs, rfl, hR1, by rw [List.length_append]; simp, hF1⟩
  by_cases c4 : t = 6
  · subst c4
    go_enter Try.func92, Try.ntmps92
    go_wp2_with fail
    refine (unhide KM K _ (unhide H) (by omega)).mono ?_
    rintro e w1 ⟨s1, hs1, rfl, hR1, hF1⟩
    have z1 := whole_pos hs1
    have HS1 := hide hs1
    clear hs1
    go_wp2_with fail
    refine (unhide KM _ _ hR1 (by rw [List.length_append]; simp; omega)).mono ?_
    rintro e w2 ⟨s2, hs2, rfl, hR2, hF2⟩
    have z2 := whole_pos hs2
    have HS2 := hide hs2
    clear hs2 hR1
    go_wp2_with fail
    refine (unhide KB _ _ hR2 20 20 (by omega) rfl).mono ?_
    rintro e w3 ⟨⟨s3, hs3, rfl⟩, hR3, hF3⟩
    have z12 : (s1 ++ s2).size = s1.size + s2.size := ByteArray.size_append
    go_wp2_with fail
    go_ret
    exact ⟨_, _, (wellD_two _).2 ⟨s1, s2, s3, rfl, unhide HS1, unhide HS2, hs3⟩, rfl, hR3, by rw [List.length_append, List.length_append]; simp, (hF1.trans hF2).trans hF3⟩
  by_cases c5 : t = 33
  · subst c5
    go_enter Try.func92, Try.ntmps92
    go_wp2_with fail
    refine (unhide KB K _ (unhide H) 6 6 (by omega) rfl).mono ?_
    rintro e w1 ⟨⟨s1, hs1, rfl⟩, hR1, hF1⟩
    go_wp2_with fail
    refine (unhide KM _ _ hR1 (by omega)).mono ?_
    rintro e w2 ⟨s2, hs2, rfl, hR2, hF2⟩
    have z2 := whole_pos hs2
    have HS2 := hide hs2
    clear hs2 hR1
    go_wp2_with fail
    go_ret
    have hz : (s1 ++ s2).size = 6 + s2.size := by rw [ByteArray.size_append, hs1]
    refine ⟨_, _, (wellD_flat _ 33 (by omega) (by omega)).2 ⟨by omega, ?_⟩, rfl, hR2, by rw [List.length_append]; simp, hF1.trans hF2⟩
    show svcB (s1 ++ s2) = true
    rw [svc_whole _ (by omega)]
    have hx := extract_back s1 s2
    rw [hs1] at hx
    rw [hx]
    exact unhide HS2
  by_cases c6 : t = 16
  · subst c6
    go_enter Try.func92, Try.ntmps92
    go_wp2_with fail
    refine (unhide KN K _ (unhide H) 3 3 (by omega) (by omega) rfl).mono ?_
    rintro e w1 ⟨⟨r, hr, rfl⟩, hR1, hg1⟩
    have HR1 := hide hR1
    have HF1 := hide ((unhide H).next hg1)
    clear hR1 hg1
    go_wp2_with fail
    obtain ⟨q, hq⟩ : ∃ q : Nat, q = 1 + r := ⟨_, rfl⟩
    have e1 : (1 : Int) + (r : Int) = (q : Int) := by omega
    rw [e1]
    have hq1 : 1 ≤ q ∧ q ≤ 3 := by omega
    clear e1 hq
    go_loopg [10, 12] (q + 1) (fun g vs vi w' => ∃ (j : Nat) (s : ByteArray), vi = .int .i64 j ∧ j ≤ q ∧ g = q + 1 - j ∧ vs = .string s ∧ s.size ≤ 256 * j ∧ j ≤ s.size ∧ Hid (rowB s 0 1 = true) ∧ Hid (Ro w' N R a n c K) ∧ Hid (RFrame N w w'))
    case atStart => exact ⟨0, ⟨#[]⟩, rfl, Nat.zero_le _, rfl, rfl, Nat.le_refl _, Nat.zero_le _, hide rfl, HR1, HF1⟩
    case round =>
      obtain ⟨j, s, rfl, hj, rfl, rfl, hs1, hs2, HB, HR, HF⟩ := hrel
      clear HR1 HF1
      by_cases cj : j < q
      · go_wp2_with fail
        refine (unhide KN K _ (unhide HR) 256 256 (by omega) (by omega) rfl).mono ?_
        rintro e w2 ⟨⟨u, hu, rfl⟩, hR2, hg2⟩
        have HR2 := hide hR2
        have HF2 := hide ((unhide HF).trans ((unhide HR).next hg2))
        clear hR2 hg2 HR HF
        go_wp2_with fail
        refine (unhide KB K _ (unhide HR2) u u (by omega) rfl).mono ?_
        rintro e w3 ⟨⟨x, hx, rfl⟩, hR3, hF3⟩
        have HR3 := hide hR3
        have HF3 := hide ((unhide HF2).trans hF3)
        clear hR3 hF3 HR2 HF2
        have hrow := byte_row w3 u (by omega)
        have HRow := hide hrow
        have hpush := rowB_push s x u hu hx (unhide HB)
        have HPush := hide hpush
        have HX := hide hx
        clear hrow hpush HB hx
        have hxs : x.size ≤ 255 := by have := unhide HX; omega
        go_wp2_with fail
        rw [run_bytes_row _ 105 9 5 Try.underlying105 Try.underlying5 Try.underlying9 w3.heap.size _ ⟨#[UInt8.ofNat u]⟩ (unhide HRow)]
        have hz2 : (⟨#[UInt8.ofNat u]⟩ : ByteArray).size = 1 := rfl
        have hz3 : (s ++ (⟨#[UInt8.ofNat u]⟩ : ByteArray)).size = s.size + 1 := ByteArray.size_append
        have hA := (Below.refl w3.heap.size w3).alloc (Nat.le_refl _) (.cells #[.int .u8 (u : Nat)] 5)
        clear HRow
        go_wp2_with fail
        go_roundg (q + 1 - (j + 1))
        case measure => omega
        case rel => exact ⟨j + 1, _, by go_num, by omega, rfl, rfl, by rw [ByteArray.size_append, hz3]; omega, by rw [ByteArray.size_append, hz3]; omega, HPush, hide ((unhide HR3).below hA), hide ((unhide HF3).trans (RFrame.of_below hA))⟩
      · have ej : j = q := by omega
        subst ej
        go_wp2_with fail
        go_ret
        exact ⟨s, K, (wellD_flat s 16 (by omega) (by omega)).2 ⟨by omega, by
          have h1 : s.size ≠ 0 := by omega
          simp [flatB, h1, unhide HB]⟩, rfl, unhide HR, by omega, unhide HF⟩
  by_cases c7 : t = 41
  · subst c7
    go_enter Try.func92, Try.ntmps92
    go_wp2_with fail
    refine (unhide KN K _ (unhide H) 8 8 (by omega) (by omega) rfl).mono ?_
    rintro e w1 ⟨⟨u, hu, rfl⟩, hR1, hg1⟩
    have HF1 := hide ((unhide H).next hg1)
    clear hg1
    go_wp2_with fail
    refine (unhide KB K _ hR1 u u (by omega) rfl).mono ?_
    rintro e w2 ⟨⟨x, hx, rfl⟩, hR2, hF2⟩
    have HF2 := hide ((unhide HF1).trans hF2)
    clear hF2 HF1 hR1
    go_wp2_with fail
    refine (unhide KB K _ hR2 2 2 (by omega) rfl).mono ?_
    rintro e w3 ⟨⟨y, hy, rfl⟩, hR3, hF3⟩
    have HF3 := hide ((unhide HF2).trans hF3)
    have HR3 := hide hR3
    clear hF3 HF2 hR2 hR3
    have hrow := two_row w3 u (by omega)
    have HRow := hide hrow
    have hopt := row_opt y x u hu hy hx
    have HOpt := hide hopt
    have HX := hide hx
    have HY := hide hy
    have hxs : x.size ≤ 255 := by omega
    have hys : y.size ≤ 255 := by omega
    clear hrow hopt hx hy
    go_wp2_with fail
    rw [run_bytes_row _ 105 9 5 Try.underlying105 Try.underlying5 Try.underlying9 w3.heap.size _ ⟨#[0, UInt8.ofNat u]⟩ (unhide HRow)]
    have hz2 : (⟨#[0, UInt8.ofNat u]⟩ : ByteArray).size = 2 := rfl
    have hz3 : (y ++ (⟨#[0, UInt8.ofNat u]⟩ : ByteArray)).size = y.size + 2 := ByteArray.size_append
    have hA := (Below.refl w3.heap.size w3).alloc (Nat.le_refl _) (.cells #[.int .u8 0, .int .u8 (u : Nat)] 5)
    clear HRow
    go_wp2_with fail
    go_ret
    exact ⟨_, K, (wellD_flat _ 41 (by omega) (by omega)).2 ⟨by rw [ByteArray.size_append, hz3]; omega, unhide HOpt⟩, rfl, (unhide HR3).below hA, by omega, (unhide HF3).trans (RFrame.of_below hA)⟩
  have d1 : ((t : Int) == 1) = false := beq_eq_false_iff_ne.2 (by omega)
  have d2 : ((t : Int) == 28) = false := beq_eq_false_iff_ne.2 (by omega)
  have d3 : ((t : Int) == 2) = false := beq_eq_false_iff_ne.2 (by omega)
  have d4 : ((t : Int) == 5) = false := beq_eq_false_iff_ne.2 (by omega)
  have d5 : ((t : Int) == 12) = false := beq_eq_false_iff_ne.2 (by omega)
  have d6 : ((t : Int) == 6) = false := beq_eq_false_iff_ne.2 (by omega)
  have d7 : ((t : Int) == 33) = false := beq_eq_false_iff_ne.2 (by omega)
  have d8 : ((t : Int) == 16) = false := beq_eq_false_iff_ne.2 (by omega)
  have d9 : ((t : Int) == 41) = false := beq_eq_false_iff_ne.2 (by omega)
  have hw : ∀ s : ByteArray, s.size ≤ 65535 → wellD t s := fun s hs => (wellD_flat s t c3 c4).2 ⟨hs, by unfold flatB; rw [if_neg c1, if_neg c2, if_neg c5, if_neg c6, if_neg c7]⟩
  have HW := hide hw
  clear hw
  go_enter Try.func92, Try.ntmps92
  go_wp2_with fail
  refine (unhide KN K _ (unhide H) 300 300 (by omega) (by omega) rfl).mono ?_
  rintro e w1 ⟨⟨r, hr, rfl⟩, hR1, hg1⟩
  go_wp2_with fail
  refine (unhide KB K _ hR1 r r (by omega) rfl).mono ?_
  rintro e w2 ⟨⟨s, hs, rfl⟩, hR2, hF2⟩
  go_wp2_with fail
  go_ret
  exact ⟨s, K, unhide HW s (by omega), rfl, hR2, by omega, ((unhide H).next hg1).trans hF2⟩

end Go.Proofs.Ytdhobdmhnocbgaa
