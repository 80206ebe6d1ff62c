/-
  Plain: more sets are more bytes; how many sets fit is one number.
-/
/-
  Plain: an answer to a question that is well made: what it holds.
-/
import Derived.Test.YtdhobdmhnocbgabGreatSSiW
import Derived.Test.YtdhobdmhnocbgabGreatSAnN
namespace Go.Proofs.YtdhobdmhnocbgabGreat
open Go.RowKit Zr

/-- Alike but for the bytes. -/
def Like (a b : St) : Prop := a.1.size = b.1.size ∧ a.2 = b.2
theorem like_name {a b : St} (h : Like a b) (s : ByteArray) : Like (wname a s) (wname b s) := by
  obtain ⟨h1, h2⟩ := h
  unfold wname
  rw [h1, h2]
  exact ⟨by rw [ByteArray.size_append, ByteArray.size_append, h1], rfl⟩
theorem like_put {a b : St} (h : Like a b) (s : ByteArray) : Like (wput a s) (wput b s) := by
  obtain ⟨h1, h2⟩ := h
  exact ⟨by show (a.1 ++ s).size = (b.1 ++ s).size; rw [ByteArray.size_append, ByteArray.size_append, h1], h2⟩
theorem like_q {a b : St} (h : Like a b) (q : Qs) : Like (stepQ a q) (stepQ b q) := by
  unfold stepQ
  rw [h.1]
  split
  · exact h
  · exact like_put (like_put (like_name h _) _) _
theorem like_r {a b : St} (h : Like a b) (x : Rc) : Like (stepR a x) (stepR b x) := by
  unfold stepR
  rw [h.1]
  split
  · exact h
  · have hh : Like (whead a x) (whead b x) := like_put (like_put (like_put (like_put (like_name h _) _) _) _) _
    obtain ⟨h1, h2⟩ := hh
    unfold wrec
    rw [h1, h2]
    exact ⟨by simp only [ByteArray.size_append, h1], rfl⟩
theorem like_qs (l : List Qs) : ∀ {a b : St}, Like a b → Like (l.foldl stepQ a) (l.foldl stepQ b) := by
  induction l with
  | nil => exact fun h => h
  | cons q l ih => exact fun h => ih (like_q h q)
theorem like_rs (l : List Rc) : ∀ {a b : St}, Like a b → Like (l.foldl stepR a) (l.foldl stepR b) := by
  induction l with
  | nil => exact fun h => h
  | cons q l ih => exact fun h => ih (like_r h q)

theorem goes_le {a b : St} (h : Goes a b) : a.1.size ≤ b.1.size := by
  obtain ⟨t, h⟩ := h
  rw [h, ByteArray.size_append]
  omega

theorem short_root (K : List (ByteArray × Nat)) (p : Nat) : short K ⟨#[0]⟩ p = (⟨#[0]⟩, []) := by
  unfold short
  show shF K ⟨#[0]⟩ p (1 + 1) 0 = _
  unfold shF
  rw [if_pos (by decide)]
  rfl
theorem opt_step (st : St) (t : Nat) (h : st.1.size ≤ 65535) : (stepR st (optR t).nat).1.size = st.1.size + 11 := by
  unfold stepR
  rw [if_neg (by omega)]
  have hn : (whead st (optR t).nat).1.size = st.1.size + 9 := by
    show ((((wname st ⟨#[0]⟩).1 ++ wd _) ++ wd _ ++ wd _) ++ wd _).size = _
    unfold wname
    rw [short_root]
    simp only [ByteArray.size_append, wd_size]
    show st.1.size + 1 + 2 + 2 + 2 + 2 = _
    omega
  have hd : ∀ K p, (sdata K (optR t).nat.data (optR t).nat.ty p).1 = ⟨#[]⟩ := fun K p => by
    show (sdata K ⟨#[]⟩ 41 p).1 = _
    rfl
  unfold wrec
  rw [hd]
  simp only [ByteArray.size_append, wd_size, hn]
  show st.1.size + 9 + 2 + 0 = _
  omega

/-- The sets stand in the order of their parts. -/
def Parted (L : List ST) : Prop := L.Pairwise fun a b => a.part ≤ b.part
theorem partP_one (s : ST) (p : Nat) : partP [s] p = if s.part = p then s.l else [] := by
  unfold partP
  by_cases h : s.part = p
  · rw [List.filter_cons_of_pos (by simpa using h), if_pos h]; simp
  · rw [List.filter_cons_of_neg (by simpa using h), if_neg h]; simp
theorem partP_none {L : List ST} {p : Nat} (h : ∀ s, s ∈ L → s.part ≠ p) : partP L p = [] := by
  unfold partP
  have : L.filter (fun s => decide (s.part = p)) = [] := by
    rw [List.filter_eq_nil_iff]
    intro s hs
    simpa using h s hs
  rw [this]
  rfl
/-- Parts one behind the other are the sets one behind the other. -/
theorem parts_flat (L : List ST) (hp : Parted L) (h2 : ∀ s, s ∈ L → s.part ≤ 2) : partP L 0 ++ partP L 1 ++ partP L 2 = L.flatMap ST.l := by
  induction L with
  | nil => rfl
  | cons s L ih =>
    obtain ⟨hs, hL⟩ := List.pairwise_cons.1 hp
    have ih' := ih hL (fun t ht => h2 t (List.mem_cons_of_mem _ ht))
    have e : ∀ p, partP (s :: L) p = partP [s] p ++ partP L p := fun p => partP_cat [s] L p
    rw [e, e, e, partP_one, partP_one, partP_one, List.flatMap_cons, ← ih']
    have hs2 := h2 s (by simp)
    have h3 : s.part = 0 ∨ s.part = 1 ∨ s.part = 2 := by omega
    rcases h3 with q | q | q
    · simp [q]
    · have n0 : partP L 0 = [] := partP_none fun t ht => by have := hs t ht; omega
      simp [q, n0]
    · have n0 : partP L 0 = [] := partP_none fun t ht => by have := hs t ht; omega
      have n1 : partP L 1 = [] := partP_none fun t ht => by have := hs t ht; omega
      simp [q, n0, n1]

theorem part_front {A B : List RI} {p : Nat} (h : partOk (A ++ B) p) : partOk A p := by
  obtain ⟨h1, h2⟩ := h
  refine ⟨by rw [List.length_append] at h1; omega, fun i hi => ?_⟩
  have := h2 i (by rw [List.length_append]; omega)
  rw [List.getElem_append_left hi, List.take_append_of_le_length (by omega)] at this
  exact this

theorem take_more (L : List ST) (c : Nat) (h : c < L.length) (p : Nat) : partP (L.take (c + 1)) p = partP (L.take c) p ++ partP [L[c]] p := by
  rw [List.take_succ_eq_append_getElem h, partP_cat]

/-- What is written of a reply, up to its options. -/
def bodyS (x : Rep) (c : Nat) : St := ((x.sets.take c).flatMap ST.l |>.map RI.nat).foldl stepR ((x.q.map QI.nat).foldl stepQ (wtop (repMsg x c).nat))
theorem writ_body (x : Rep) (c : Nat) (hp : Parted x.sets) (h2 : ∀ s, s ∈ x.sets → s.part ≤ 2) : writ (repMsg x c).nat = ((optsP x).map RI.nat).foldl stepR (bodyS x c) := by
  have hf := parts_flat (x.sets.take c) (hp.sublist (List.take_sublist _ _)) (fun s hs => h2 s (List.mem_of_mem_take hs))
  unfold bodyS
  rw [← hf]
  show (((partP (x.sets.take c) 2 ++ optsP x).map RI.nat).foldl stepR (((partP (x.sets.take c) 1).map RI.nat).foldl stepR (((partP (x.sets.take c) 0).map RI.nat).foldl stepR ((x.q.map QI.nat).foldl stepQ _)))) = _
  simp only [List.map_append, List.foldl_append]
theorem body_le (x : Rep) (c : Nat) (h : c < x.sets.length) : (bodyS x c).1.size ≤ (bodyS x (c + 1)).1.size := by
  have hl : Like (wtop (repMsg x c).nat) (wtop (repMsg x (c + 1)).nat) := ⟨by rw [top_size, top_size], rfl⟩
  have h1 := like_rs ((x.sets.take c).flatMap ST.l |>.map RI.nat) (like_qs (x.q.map QI.nat) hl)
  have h2 : bodyS x (c + 1) = (x.sets[c].l.map RI.nat).foldl stepR (((x.sets.take c).flatMap ST.l |>.map RI.nat).foldl stepR ((x.q.map QI.nat).foldl stepQ (wtop (repMsg x (c + 1)).nat))) := by
    unfold bodyS
    rw [List.take_succ_eq_append_getElem h, List.flatMap_append, List.map_append, List.foldl_append]
    simp
  rw [h2]
  have h3 := goes_le (goes_rs (x.sets[c].l.map RI.nat) (((x.sets.take c).flatMap ST.l |>.map RI.nat).foldl stepR ((x.q.map QI.nat).foldl stepQ (wtop (repMsg x (c + 1)).nat))))
  have h4 := h1.1
  unfold bodyS
  omega
theorem opts_size (x : Rep) (st : St) (h : (((optsP x).map RI.nat).foldl stepR st).1.size ≤ 65535) : st.1.size ≤ 65535 ∧ (((optsP x).map RI.nat).foldl stepR st).1.size = st.1.size + (if x.opt then 11 else 0) := by
  have hle := goes_le (goes_rs ((optsP x).map RI.nat) st)
  have hs : st.1.size ≤ 65535 := by omega
  refine ⟨hs, ?_⟩
  unfold optsP
  split
  · exact opt_step st x.told hs
  · rfl

/-- A set less fits too. -/
theorem fit_less (x : Rep) (c : Nat) (hx : x.fl < 65536) (ht : x.told ≤ 16) (hp : Parted x.sets) (h2 : ∀ s, s ∈ x.sets → s.part ≤ 2) (hc : c < x.sets.length) (h : Fit x (c + 1)) : Fit x c := by
  obtain ⟨hok, hs, hl⟩ := h
  rw [writ_body x (c + 1) hp h2] at hs hl
  obtain ⟨s1, s2⟩ := opts_size x _ hs
  rw [s2] at hs hl
  have hb := body_le x c hc
  have hw : (writ (repMsg x c).nat).1.size ≤ (bodyS x (c + 1)).1.size + (if x.opt then 11 else 0) := by
    rw [writ_body x c hp h2]
    unfold optsP
    split
    · next ho =>
      have := opt_step (bodyS x c) x.told (by omega)
      show (stepR (bodyS x c) (optR x.told).nat).1.size ≤ _
      omega
    · show (bodyS x c).1.size ≤ _
      omega
  refine ⟨?_, by omega, by omega⟩
  obtain ⟨k1, _, k3, k4, k5, k6⟩ := hok
  have k4' : partOk (partP (x.sets.take (c + 1)) 0) 0 := k4
  have k5' : partOk (partP (x.sets.take (c + 1)) 1) 1 := k5
  have k6' : partOk (partP (x.sets.take (c + 1)) 2 ++ optsP x) 2 := k6
  rw [take_more x.sets c hc] at k4' k5' k6'
  have hfl := cut_lt x.sets c (x.fl ||| x.told % 16) (Nat.or_lt_two_pow (n := 16) hx (by omega)) x.sets.length
  refine ⟨k1, ⟨by show (0 : Int) ≤ ((_ : Nat) : Int); omega, by show ((_ : Nat) : Int) ≤ 65535; omega⟩, k3, part_front k4', part_front k5', ?_⟩
  show partOk (partP (x.sets.take c) 2 ++ optsP x) 2
  have kf := part_front (part_front k6')
  have ho := opts_ok x ht
  unfold optsP at k6' ho ⊢
  split
  · next hop =>
    rw [if_pos hop] at k6' ho
    refine ⟨?_, fun i hi => ?_⟩
    · have := k6'.1
      simp only [List.length_append] at this ⊢
      omega
    · rcases Nat.lt_or_ge i (partP (x.sets.take c) 2).length with q | q
      · rw [List.getElem_append_left q, List.take_append_of_le_length (by omega)]
        exact kf.2 i q
      · have ei : i = (partP (x.sets.take c) 2).length := by simp only [List.length_append, List.length_cons, List.length_nil] at hi; omega
        subst ei
        rw [List.getElem_append_right (Nat.le_refl _)]
        simp only [Nat.sub_self, List.getElem_cons_zero, List.take_left]
        refine ⟨(ho.2 0 (by simp)).1, fun hm => ?_⟩
        have := (k6'.2 (partP (x.sets.take c) 2 ++ partP [x.sets[c]] 2).length (by simp)).2
        rw [List.getElem_append_right (Nat.le_refl _)] at this
        simp only [Nat.sub_self, List.getElem_cons_zero, List.take_left] at this
        refine this ⟨hm.1, ?_⟩
        rcases hm.2 with ⟨y, hy, hy2⟩ | q | q
        · exact .inl ⟨y, List.mem_append_left _ hy, hy2⟩
        · exact .inr (.inl q)
        · exact .inr (.inr q)
  · rw [List.append_nil]
    exact kf

theorem fit_down (x : Rep) (hx : x.fl < 65536) (ht : x.told ≤ 16) (hp : Parted x.sets) (h2 : ∀ s, s ∈ x.sets → s.part ≤ 2) (c : Nat) : ∀ d, c + d ≤ x.sets.length → Fit x (c + d) → Fit x c
  | 0, _, h => h
  | d + 1, hd, h => fit_down x hx ht hp h2 c d (by omega) (fit_less x (c + d) hx ht hp h2 (by omega) h)

theorem fitting_one (x : Rep) (hx : x.fl < 65536) (ht : x.told ≤ 16) (hp : Parted x.sets) (h2 : ∀ s, s ∈ x.sets → s.part ≤ 2) {c d : Nat} (h : Fitting x c) (k : Fitting x d) : c = d := by
  have key : ∀ {c d : Nat}, Fitting x c → Fitting x d → ¬ c < d := by
    intro c d h k hlt
    have hd : Fit x d := by
      rcases k.2.1 with q | q
      · omega
      · exact q
    have : Fit x (c + 1) := fit_down x hx ht hp h2 (c + 1) (d - (c + 1)) (by have := k.1; omega) (by rw [show c + 1 + (d - (c + 1)) = d by omega]; exact hd)
    rcases h.2.2 with q | q
    · have := k.1; omega
    · exact q this
  have := key h k
  have := key k h
  omega

theorem Parted.want {z : List RI} {L : List ST} (h : Parted L) (p : Nat) (hp : ∀ s, s ∈ L → s.part ≤ p) (n : ByteArray) (t : Int) : Parted (wantP z L p n t) ∧ ∀ s, s ∈ wantP z L p n t → s.part ≤ p := by
  unfold wantP
  split
  · exact ⟨h, hp⟩
  · refine ⟨List.pairwise_append.2 ⟨h, by simp, fun a ha b hb => ?_⟩, fun s hs => ?_⟩
    · rw [List.mem_singleton] at hb
      subst hb
      exact hp a ha
    · rcases List.mem_append.1 hs with q | q
      · exact hp s q
      · rw [List.mem_singleton] at q
        subst q
        exact Nat.le_refl _
theorem Parted.all {z : List RI} (n : ByteArray) : ∀ j, Parted (wantTo z n [] j) ∧ ∀ s, s ∈ wantTo z n [] j → s.part ≤ 0
  | 0 => ⟨List.Pairwise.nil, fun s hs => by cases hs⟩
  | j + 1 => by
    have ih := Parted.all (z := z) n j
    rcases Nat.lt_or_ge j z.length with k | k
    · rw [wantTo_step z n [] j k]
      split
      · exact ih.1.want 0 ih.2 n _
      · exact ih
    · show Parted (match z[j]? with | none => _ | some x => _ : List ST) ∧ ∀ s, s ∈ (match z[j]? with | none => _ | some x => _ : List ST) → _
      rw [List.getElem?_eq_none k]
      exact ih
theorem parted_answ (z : List RI) (n : ByteArray) (t : Int) : Parted (answP z [] n t) ∧ ∀ s, s ∈ answP z [] n t → s.part ≤ 0 := by
  have h0 : Parted [] ∧ ∀ s, s ∈ ([] : List ST) → s.part ≤ 0 := ⟨List.Pairwise.nil, fun s hs => by cases hs⟩
  unfold answP
  split
  · exact Parted.all n _
  · split
    · exact h0.1.want 0 h0.2 n 5
    · have h1 := h0.1.want (z := z) 0 h0.2 n 5
      exact h1.1.want 0 h1.2 _ t
theorem parted_main (z : List RI) (n : ByteArray) (t : Int) : Parted (mainP z n t) ∧ ∀ s, s ∈ mainP z n t → s.part ≤ 1 := by
  obtain ⟨h1, h2⟩ := parted_answ z n t
  unfold mainP soaP
  split
  · exact ⟨h1, fun s hs => by have := h2 s hs; omega⟩
  · exact h1.want 1 (fun s hs => by have := h2 s hs; omega) _ 6
theorem parted_hosts (z sv : List RI) (L : List ST) (h : Parted L) (hL : ∀ s, s ∈ L → s.part ≤ 2) : ∀ j, j ≤ sv.length → Parted (hostsTo z sv L j).2 ∧ ∀ s, s ∈ (hostsTo z sv L j).2 → s.part ≤ 2
  | 0, _ => ⟨h, hL⟩
  | j + 1, hj => by
    obtain ⟨i1, i2⟩ := parted_hosts z sv L h hL j (by omega)
    obtain ⟨s1, s2⟩ := hosts_step z sv L j (by omega)
    rcases Nat.lt_or_ge (seekP z (targetP sv[j].data) (hostsTo z sv L j).1) z.length with k | k
    · rw [s1 k]
      refine ⟨List.pairwise_append.2 ⟨i1, by simp, fun a ha b hb => ?_⟩, fun s hs => ?_⟩
      · rw [List.mem_singleton] at hb
        subst hb
        exact i2 a ha
      · rcases List.mem_append.1 hs with q | q
        · exact i2 s q
        · rw [List.mem_singleton] at q
          subst q
          exact Nat.le_refl _
    · rw [s2 k]
      exact ⟨i1, i2⟩
theorem parted_sets (z : List RI) (n : ByteArray) (t : Int) : Parted (setsP z n t) ∧ ∀ s, s ∈ setsP z n t → s.part ≤ 2 := by
  unfold setsP
  split
  · obtain ⟨h1, h2⟩ := parted_main z n t
    exact parted_hosts z _ _ h1 (fun s hs => by have := h2 s hs; omega) _ (Nat.le_refl _)
  · have h0 : Parted [] ∧ ∀ s, s ∈ ([] : List ST) → s.part ≤ 1 := ⟨List.Pairwise.nil, fun s hs => by cases hs⟩
    have h1 := h0.1.want (z := z) 1 h0.2 originB 6
    exact ⟨h1.1, fun s hs => by have := h1.2 s hs; omega⟩

end Go.Proofs.YtdhobdmhnocbgabGreat

namespace Go.Proofs.YtdhobdmhnocbgabGreat
open Go.RowKit Zr

theorem top_byte3 (m : Msg) : bt (wtop m).1 3 = m.flags % 256 := by
  have e : (wtop m).1 = wd m.id ++ (wd m.flags ++ (wd m.q.length ++ wd m.a.length ++ wd m.u.length ++ wd m.x.length)) := by
    show wd m.id ++ wd m.flags ++ wd m.q.length ++ wd m.a.length ++ wd m.u.length ++ wd m.x.length = _
    simp only [ByteArray.append_assoc]
  rw [e, bt_append, if_neg (by rw [wd_size]; omega), wd_size, bt_append, if_pos (by rw [wd_size]; omega)]
  exact wd_1 _

theorem num_two' (b : ByteArray) (i : Nat) : num b i 2 = 256 * bt b i + bt b (i + 1) := by simp only [num]; rw [Nat.add_zero]; omega

/-- The first numbers of what is written. -/
theorem writ_nums (m : MI) (hok : msgOk m) : num (writ m.nat).1 0 2 = m.id.toNat ∧ num (writ m.nat).1 2 2 = m.flags.toNat := by
  obtain ⟨⟨i1, i2⟩, ⟨f1, f2⟩, _⟩ := hok
  obtain ⟨_, hw⟩ := writ_front m.nat
  have hid : m.nat.id = m.id.toNat := rfl
  have hfl : m.nat.flags = m.flags.toNat := rfl
  obtain ⟨t0, t1, t2⟩ := top_bytes m.nat (by rw [hid]; omega) (by rw [hfl]; omega)
  have t3 := top_byte3 m.nat
  rw [num_two', num_two']
  show 256 * bt (writ m.nat).1 0 + bt (writ m.nat).1 1 = _ ∧ 256 * bt (writ m.nat).1 2 + bt (writ m.nat).1 3 = _
  rw [hw 0 (by omega), hw 1 (by omega), hw 2 (by omega), hw 3 (by omega), t0, t1, t2, t3, hid, hfl]
  omega

/-- The reply to a message that was written. -/
theorem rep_of (l : List Ev) (m : MI) (stream : Bool) (hok : msgOk m) (hz : (writ m.nat).1.size ≤ 65535) : repP l (writ m.nat).1 stream = takeP m.id.toNat (32768 ||| (m.flags.toNat &&& 30976)) m l stream := by
  obtain ⟨n1, n2⟩ := writ_nums m hok
  unfold repP
  rw [parse_writ m hok hz, n1, n2]
  simp only
  rw [int_of_nat hok]
theorem not_mute (m : MI) (hok : msgOk m) (hz : (writ m.nat).1.size ≤ 65535) (hf : m.flags < 32768) : ¬ Mute (writ m.nat).1 := by
  obtain ⟨w1, hw⟩ := writ_front m.nat
  obtain ⟨⟨i1, i2⟩, ⟨f1, f2⟩, _⟩ := hok
  have hid : m.nat.id = m.id.toNat := rfl
  have hfl : m.nat.flags = m.flags.toNat := rfl
  obtain ⟨t0, t1, t2⟩ := top_bytes m.nat (by rw [hid]; omega) (by rw [hfl]; omega)
  have h2 := hw 2 (by omega)
  rw [t2, hfl] at h2
  rintro (h | h | h) <;> omega

theorem none_size (x : Rep) (h : RepOk x) : (writ (repMsg x 0).nat).1.size ≤ 512 := by
  obtain ⟨hok, _⟩ := rep_none x h
  have hx := h
  obtain ⟨h1, h2, h3, h4, h5, h6⟩ := h
  have e : repMsg x 0 = ⟨x.id, (flagTo x.sets 0 (x.fl ||| x.told % 16) x.sets.length : Nat), x.q, [], [], optsP x⟩ := by
    unfold repMsg
    simp [partP]
  refine Nat.le_trans (writ_le _ hok) ?_
  rw [e]
  show whlQ x.q + whlR [] + whlR [] + whlR (optsP x) ≤ 512
  have ho := opts_len x
  have hr : whlR [] = 0 := rfl
  have hq : whlQ x.q ≤ 300 := by
    match hx : x.q with
    | [] => show 12 ≤ 300; omega
    | [q] =>
      have := h5.2 0 (by rw [hx]; simp)
      have hs : q.name.size ≤ 255 := by
        have := this.1
        simp only [hx, List.getElem_cons_zero] at this
        exact (whole_pos this).2
      show 12 + q.name.size + 4 ≤ 300
      omega
    | a :: b :: l => rw [hx] at h6; simp at h6
  omega

/-- The answer can be read, and keeps to its limit. -/
theorem ans_ok (x : Rep) (h : RepOk x) {c : Nat} (hf : Fitting x c) : msgOk (repMsg x c) ∧ (writ (repMsg x c).nat).1.size ≤ 65535 ∧ (512 ≤ x.lim → (writ (repMsg x c).nat).1.size ≤ x.lim) := by
  rcases hf.2.1 with k | k
  · subst k
    obtain ⟨h1, h2⟩ := rep_none x h
    exact ⟨h1, h2, fun k => Nat.le_trans (none_size x h) k⟩
  · exact ⟨k.1, k.2.1, fun _ => k.2.2⟩
theorem ans_ser (x : Rep) (h : RepOk x) {c : Nat} (hf : Fitting x c) {s : ByteArray} {e : Int} (hs : SerIs (repMsg x c) s e) : s = (writ (repMsg x c).nat).1 := by
  obtain ⟨h1, h2, _⟩ := ans_ok x h hf
  rcases hs with ⟨k, _⟩ | ⟨_, k, _⟩ | ⟨_, _, k, _⟩
  · exact absurd h1 k
  · omega
  · exact k

theorem take_opt (id fl : Nat) (m : MI) (l : List Ev) (stream : Bool) : (takeP id fl m l stream).opt = (optOfP m.x).isSome ∧ (takeP id fl m l stream).lim = limP (classP m.x) stream ∧ (takeP id fl m l stream).id = id ∧ ((takeP id fl m l stream).q = m.q ∨ m.q.length ≠ 1) := by
  unfold takeP
  split
  · next q hq => split <;> exact ⟨rfl, rfl, rfl, .inl hq.symm⟩
  · next hq =>
    refine ⟨rfl, rfl, rfl, .inr fun h => ?_⟩
    obtain ⟨q, hq2⟩ := List.length_eq_one_iff.1 h
    exact hq q hq2

end Go.Proofs.YtdhobdmhnocbgabGreat
