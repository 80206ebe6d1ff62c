/-
  Plain: more sets are more bytes; how many sets fit is one number.
-/
/-
  Plain: an answer to a question that is well made: what it holds.
-/
import Derived.Test.YtdhobdmhnocbgabGreatSSiW
import Derived.Test.YtdhobdmhnocbgabGreatSAnN
namespace Go.Proofs.YtdhobdmhnocbgabGreat
open Go.RowKit Zr

/-- Alike but for the bytes. -/
def Like (a b : St) : Prop := a.1.size = b.1.size ∧ a.2 = b.2
/-- The sets stand in the order of their parts. -/
def Parted (L : List ST) : Prop := L.Pairwise fun a b => a.part ≤ b.part
theorem partP_none {L : List ST} {p : Nat} (h : ∀ s, s ∈ L → s.part ≠ p) : partP L p = [] := by
  unfold partP
  have : L.filter (fun s => decide (s.part = p)) = [] := by
    rw [List.filter_eq_nil_iff]
    intro s hs
    simpa using h s hs
  rw [this]
  rfl
/-- What is written of a reply, up to its options. -/
def bodyS (x : Rep) (c : Nat) : St := ((x.sets.take c).flatMap ST.l |>.map RI.nat).foldl stepR ((x.q.map QI.nat).foldl stepQ (wtop (repMsg x c).nat))
theorem Parted.want {z : List RI} {L : List ST} (h : Parted L) (p : Nat) (hp : ∀ s, s ∈ L → s.part ≤ p) (n : ByteArray) (t : Int) : Parted (wantP z L p n t) ∧ ∀ s, s ∈ wantP z L p n t → s.part ≤ p := by
  unfold wantP
  split
  · exact ⟨h, hp⟩
  · refine ⟨List.pairwise_append.2 ⟨h, by simp, fun a ha b hb => ?_⟩, fun s hs => ?_⟩
    · rw [List.mem_singleton] at hb
      subst hb
      exact hp a ha
    · rcases List.mem_append.1 hs with q | q
      · exact hp s q
      · rw [List.mem_singleton] at q
        subst q
        exact Nat.le_refl _
theorem Parted.all {z : List RI} (n : ByteArray) : ∀ j, Parted (wantTo z n [] j) ∧ ∀ s, s ∈ wantTo z n [] j → s.part ≤ 0
  | 0 => ⟨List.Pairwise.nil, fun s hs => by cases hs⟩
  | j + 1 => by
    have ih := Parted.all (z := z) n j
    rcases Nat.lt_or_ge j z.length with k | k
    · rw [wantTo_step z n [] j k]
      split
      · exact ih.1.want 0 ih.2 n _
      · exact ih
    · show Parted (match z[j]? with | none => _ | some x => _ : List ST) ∧ ∀ s, s ∈ (match z[j]? with | none => _ | some x => _ : List ST) → _
      rw [List.getElem?_eq_none k]
      exact ih
theorem parted_answ (z : List RI) (n : ByteArray) (t : Int) : Parted (answP z [] n t) ∧ ∀ s, s ∈ answP z [] n t → s.part ≤ 0 := by
  have h0 : Parted [] ∧ ∀ s, s ∈ ([] : List ST) → s.part ≤ 0 := ⟨List.Pairwise.nil, fun s hs => by cases hs⟩
  unfold answP
  split
  · exact Parted.all n _
  · split
    · exact h0.1.want 0 h0.2 n 5
    · have h1 := h0.1.want (z := z) 0 h0.2 n 5
      exact h1.1.want 0 h1.2 _ t
theorem parted_main (z : List RI) (n : ByteArray) (t : Int) : Parted (mainP z n t) ∧ ∀ s, s ∈ mainP z n t → s.part ≤ 1 := by
  obtain ⟨h1, h2⟩ := parted_answ z n t
  unfold mainP soaP
  split
  · exact ⟨h1, fun s hs => by have := h2 s hs; omega⟩
  · exact h1.want 1 (fun s hs => by have := h2 s hs; omega) _ 6
end Go.Proofs.YtdhobdmhnocbgabGreat

namespace Go.Proofs.YtdhobdmhnocbgabGreat
open Go.RowKit Zr

theorem top_byte3 (m : Msg) : bt (wtop m).1 3 = m.flags % 256 := by
  have e : (wtop m).1 = wd m.id ++ (wd m.flags ++ (wd m.q.length ++ wd m.a.length ++ wd m.u.length ++ wd m.x.length)) := by
    show wd m.id ++ wd m.flags ++ wd m.q.length ++ wd m.a.length ++ wd m.u.length ++ wd m.x.length = _
    simp only [ByteArray.append_assoc]
  rw [e, bt_append, if_neg (by rw [wd_size]; omega), wd_size, bt_append, if_pos (by rw [wd_size]; omega)]
  exact wd_1 _

theorem num_two' (b : ByteArray) (i : Nat) : num b i 2 = 256 * bt b i + bt b (i + 1) := by simp only [num]; rw [Nat.add_zero]; omega

/-- The first numbers of what is written. -/
theorem writ_nums (m : MI) (hok : msgOk m) : num (writ m.nat).1 0 2 = m.id.toNat ∧ num (writ m.nat).1 2 2 = m.flags.toNat := by
  obtain ⟨⟨i1, i2⟩, ⟨f1, f2⟩, _⟩ := hok
  obtain ⟨_, hw⟩ := writ_front m.nat
  have hid : m.nat.id = m.id.toNat := rfl
  have hfl : m.nat.flags = m.flags.toNat := rfl
  obtain ⟨t0, t1, t2⟩ := top_bytes m.nat (by rw [hid]; omega) (by rw [hfl]; omega)
  have t3 := top_byte3 m.nat
  rw [num_two', num_two']
  show 256 * bt (writ m.nat).1 0 + bt (writ m.nat).1 1 = _ ∧ 256 * bt (writ m.nat).1 2 + bt (writ m.nat).1 3 = _
  rw [hw 0 (by omega), hw 1 (by omega), hw 2 (by omega), hw 3 (by omega), t0, t1, t2, t3, hid, hfl]
  omega

/-- The reply to a message that was written. -/
theorem rep_of (l : List Ev) (m : MI) (stream : Bool) (hok : msgOk m) (hz : (writ m.nat).1.size ≤ 65535) : repP l (writ m.nat).1 stream = takeP m.id.toNat (32768 ||| (m.flags.toNat &&& 30976)) m l stream := by
  obtain ⟨n1, n2⟩ := writ_nums m hok
  unfold repP
  rw [parse_writ m hok hz, n1, n2]
  simp only
  rw [int_of_nat hok]
theorem not_mute (m : MI) (hok : msgOk m) (hz : (writ m.nat).1.size ≤ 65535) (hf : m.flags < 32768) : ¬ Mute (writ m.nat).1 := by
  obtain ⟨w1, hw⟩ := writ_front m.nat
  obtain ⟨⟨i1, i2⟩, ⟨f1, f2⟩, _⟩ := hok
  have hid : m.nat.id = m.id.toNat := rfl
  have hfl : m.nat.flags = m.flags.toNat := rfl
  obtain ⟨t0, t1, t2⟩ := top_bytes m.nat (by rw [hid]; omega) (by rw [hfl]; omega)
  have h2 := hw 2 (by omega)
  rw [t2, hfl] at h2
  rintro (h | h | h) <;> omega

theorem none_size (x : Rep) (h : RepOk x) : (writ (repMsg x 0).nat).1.size ≤ 512 := by
  obtain ⟨hok, _⟩ := rep_none x h
  have hx := h
  obtain ⟨h1, h2, h3, h4, h5, h6⟩ := h
  have e : repMsg x 0 = ⟨x.id, (flagTo x.sets 0 (x.fl ||| x.told % 16) x.sets.length : Nat), x.q, [], [], optsP x⟩ := by
    unfold repMsg
    simp [partP]
  refine Nat.le_trans (writ_le _ hok) ?_
  rw [e]
  show whlQ x.q + whlR [] + whlR [] + whlR (optsP x) ≤ 512
  have ho := opts_len x
  have hr : whlR [] = 0 := rfl
  have hq : whlQ x.q ≤ 300 := by
    match hx : x.q with
    | [] => show 12 ≤ 300; omega
    | [q] =>
      have := h5.2 0 (by rw [hx]; simp)
      have hs : q.name.size ≤ 255 := by
        have := this.1
        simp only [hx, List.getElem_cons_zero] at this
        exact (whole_pos this).2
      show 12 + q.name.size + 4 ≤ 300
      omega
    | a :: b :: l => rw [hx] at h6; simp at h6
  omega

/-- The answer can be read, and keeps to its limit. -/
theorem ans_ok (x : Rep) (h : RepOk x) {c : Nat} (hf : Fitting x c) : msgOk (repMsg x c) ∧ (writ (repMsg x c).nat).1.size ≤ 65535 ∧ (512 ≤ x.lim → (writ (repMsg x c).nat).1.size ≤ x.lim) := by
  rcases hf.2.1 with k | k
  · subst k
    obtain ⟨h1, h2⟩ := rep_none x h
    exact ⟨h1, h2, fun k => Nat.le_trans (none_size x h) k⟩
  · exact ⟨k.1, k.2.1, fun _ => k.2.2⟩
theorem ans_ser (x : Rep) (h : RepOk x) {c : Nat} (hf : Fitting x c) {s : ByteArray} {e : Int} (hs : SerIs (repMsg x c) s e) : s = (writ (repMsg x c).nat).1 := by
  obtain ⟨h1, h2, _⟩ := ans_ok x h hf
  rcases hs with ⟨k, _⟩ | ⟨_, k, _⟩ | ⟨_, _, k, _⟩
  · exact absurd h1 k
  · omega
  · exact k

theorem seek_host (z : List RI) (node : ByteArray) : ∀ d i, z.length - i ≤ d → ∀ h : seekP z node i < z.length, isHostP node z[seekP z node i] = true
  | 0, i, hd, h => by
    rw [seek_end (by omega)] at h
    omega
  | d + 1, i, hd, h => by
    rcases Nat.lt_or_ge i z.length with k | k
    · cases hq : isHostP node z[i] with
      | true =>
        have e := seek_stop k hq
        simp only [e]
        exact hq
      | false =>
        have e := seek_go k hq
        simp only [e]
        exact seek_host z node d (i + 1) (by omega) (by rw [← e]; exact h)
    · rw [seek_end k] at h
      omega
theorem hosts_kind (z sv : List RI) (L : List ST) (hL : ∀ s, s ∈ L → s.part ≤ 1) : ∀ j, j ≤ sv.length → ∀ s, s ∈ (hostsTo z sv L j).2 → s.part = 2 → ∀ x, x ∈ s.l → x.ty ≠ 41
  | 0, _, s, hs, hp, x, hx => by have := hL s hs; omega
  | j + 1, hj, s, hs, hp, x, hx => by
    have ih := hosts_kind z sv L hL j (by omega)
    obtain ⟨s1, s2⟩ := hosts_step z sv L j (by omega)
    rcases Nat.lt_or_ge (seekP z (targetP sv[j].data) (hostsTo z sv L j).1) z.length with k | k
    · rw [s1 k] at hs
      rcases List.mem_append.1 hs with q | q
      · exact ih s q hp x hx
      · rw [List.mem_singleton] at q
        rw [q] at hx
        have hx2 : x = z[seekP z (targetP sv[j].data) (hostsTo z sv L j).1] := List.mem_singleton.1 hx
        rw [hx2]
        have := seek_host z (targetP sv[j].data) _ _ (Nat.le_refl _) k
        unfold isHostP at this
        simp only [decide_eq_true_eq] at this
        rcases this.2 with h | h <;> omega
    · rw [s2 k] at hs
      exact ih s hs hp x hx
theorem sets_kind (z : List RI) (n : ByteArray) (t : Int) : ∀ s, s ∈ setsP z n t → s.part = 2 → ∀ x, x ∈ s.l → x.ty ≠ 41 := by
  intro s hs hp x hx
  unfold setsP at hs
  split at hs
  · exact hosts_kind z _ _ (parted_main z n t).2 _ (Nat.le_refl _) s hs hp x hx
  · have h0 : Parted [] ∧ ∀ s, s ∈ ([] : List ST) → s.part ≤ 1 := ⟨List.Pairwise.nil, fun s hs => by cases hs⟩
    have := (h0.1.want (z := z) 1 h0.2 originB 6).2 s hs
    omega
theorem part_kind {L : List ST} (h : ∀ s, s ∈ L → s.part = 2 → ∀ x, x ∈ s.l → x.ty ≠ 41) (c : Nat) : ∀ x, x ∈ partP (L.take c) 2 → x.ty ≠ 41 := by
  intro x hx
  unfold partP at hx
  obtain ⟨s, hs, hx⟩ := List.mem_flatMap.1 hx
  obtain ⟨hs1, hs2⟩ := List.mem_filter.1 hs
  exact h s (List.mem_of_mem_take hs1) (by simpa using hs2) x hx
theorem take_kind (id fl : Nat) (m : MI) (l : List Ev) (stream : Bool) (c : Nat) : ∀ x, x ∈ partP ((takeP id fl m l stream).sets.take c) 2 → x.ty ≠ 41 := by
  have h0 : ∀ x, x ∈ partP (([] : List ST).take c) 2 → x.ty ≠ 41 := fun x hx => by simp [partP] at hx
  unfold takeP
  split
  · split
    · exact part_kind (sets_kind _ _ _) c
    · exact h0
  · exact h0
end Go.Proofs.YtdhobdmhnocbgabGreat
