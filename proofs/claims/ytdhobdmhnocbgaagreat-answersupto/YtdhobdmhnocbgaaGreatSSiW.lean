/-
  Plain: an answer's first bytes; that there is one.
-/
/-
  Plain: more sets are more bytes; how many sets fit is one number.
-/
/-
  Plain: an answer to a question that is well made: what it holds.
-/
/-
  Walks: Respond.
-/
/-
  Walks: the zone's Respond; Silent.
-/
import Derived.Test.YtdhobdmhnocbgaaGreatSAnN
import Derived.Test.YtdhobdmhnocbgaaGreatSDntE
namespace Go.Proofs.YtdhobdmhnocbgaaGreat
open Go.RowKit Zr

/-- What is written goes on from what was. -/
def Goes (a b : St) : Prop := ∃ t, b.1 = a.1 ++ t
theorem Goes.refl (a : St) : Goes a a := ⟨⟨#[]⟩, ByteArray.ext (by rw [ByteArray.data_append]; simp)⟩
theorem Goes.trans {a b c : St} (h : Goes a b) (k : Goes b c) : Goes a c := by
  obtain ⟨t, h⟩ := h
  obtain ⟨u, k⟩ := k
  exact ⟨t ++ u, by rw [k, h, ByteArray.append_assoc]⟩
theorem goes_name (st : St) (s : ByteArray) : Goes st (wname st s) := ⟨_, rfl⟩
theorem goes_put (st : St) (s : ByteArray) : Goes st (wput st s) := ⟨_, rfl⟩
theorem goes_r (st : St) (x : Rc) : Goes st (stepR st x) := by
  unfold stepR
  split
  · exact Goes.refl _
  · have h1 : Goes st (whead st x) := ((((goes_name st _).trans (goes_put _ _)).trans (goes_put _ _)).trans (goes_put _ _)).trans (goes_put _ _)
    exact h1.trans ⟨_, ByteArray.append_assoc⟩
theorem goes_rs (l : List Rc) : ∀ st, Goes st (l.foldl stepR st) := by
  induction l with
  | nil => exact fun st => Goes.refl st
  | cons q l ih => exact fun st => (goes_r st q).trans (ih _)
theorem top_size (m : Msg) : (wtop m).1.size = 12 := by
  show (wd _ ++ wd _ ++ wd _ ++ wd _ ++ wd _ ++ wd _).size = 12
  simp only [ByteArray.size_append, wd_size]
/-- A reply whose parts are as they should be. -/
def RepOk (x : Rep) : Prop := x.id < 65536 ∧ 32768 ≤ x.fl ∧ x.fl < 65536 ∧ x.told ≤ 16 ∧ quesOk x.q ∧ x.q.length ≤ 1

theorem opts_ok (x : Rep) (h : x.told ≤ 16) : partOk (optsP x) 2 := by
  unfold optsP
  split
  · refine ⟨by simp, fun i hi => ?_⟩
    have e : i = 0 := by simpa using hi
    subst e
    refine ⟨⟨rfl, by unfold wordOk optR; simp, by unfold wordOk optR; simp, ⟨by show (0 : Int) ≤ ((x.told / 16 * 16777216 : Nat) : Int); omega, by show ((x.told / 16 * 16777216 : Nat) : Int) ≤ 4294967295; omega⟩, ?_⟩, fun k => ?_⟩
    · show wellD 41 ⟨#[]⟩
      exact ⟨by decide, by kernel_rfl⟩
    · obtain ⟨_, k⟩ := k
      rcases k with ⟨y, hy, _⟩ | k | k
      · simp at hy
      · exact k rfl
      · exact k rfl
  · exact ⟨by simp, fun i hi => absurd hi (by simp)⟩
theorem opts_len (x : Rep) : whlR (optsP x) ≤ 11 := by
  unfold optsP
  split
  · show 0 + 1 + 10 + 0 ≤ 11
    omega
  · decide

theorem flag_ge (L : List ST) (c f : Nat) (h : 32768 ≤ f) : ∀ j, 32768 ≤ flagTo L c f j
  | 0 => h
  | j + 1 => by
    have ih := flag_ge L c f h j
    rcases Nat.lt_or_ge j L.length with k | k
    · rw [cut_step L c f j k]
      split
      · exact Nat.le_trans ih Nat.left_le_or
      · exact ih
    · have : flagTo L c f (j + 1) = flagTo L c f j := by
        conv => lhs; unfold flagTo
        rw [List.getElem?_eq_none k]
      rw [this]
      exact ih
theorem rep_flags (x : Rep) (c : Nat) (h : RepOk x) : 32768 ≤ flagTo x.sets c (x.fl ||| x.told % 16) x.sets.length ∧ flagTo x.sets c (x.fl ||| x.told % 16) x.sets.length < 65536 := by
  obtain ⟨h1, h2, h3, h4, h5, h6⟩ := h
  exact ⟨flag_ge _ _ _ (Nat.le_trans h2 Nat.left_le_or) _, cut_lt _ _ _ (Nat.or_lt_two_pow (n := 16) h3 (by omega)) _⟩

/-- With no set at all an answer can be written. -/
theorem rep_none (x : Rep) (h : RepOk x) : msgOk (repMsg x 0) ∧ (writ (repMsg x 0).nat).1.size ≤ 65535 := by
  obtain ⟨f1, f2⟩ := rep_flags x 0 h
  obtain ⟨h1, h2, h3, h4, h5, h6⟩ := h
  have e : repMsg x 0 = ⟨x.id, (flagTo x.sets 0 (x.fl ||| x.told % 16) x.sets.length : Nat), x.q, [], [], optsP x⟩ := by
    unfold repMsg
    simp [partP]
  have hp : ∀ p, partOk [] p := fun p => ⟨by simp, fun i hi => absurd hi (by simp)⟩
  have hok : msgOk (repMsg x 0) := by
    rw [e]
    exact ⟨⟨by show (0 : Int) ≤ (x.id : Int); omega, by show (x.id : Int) ≤ 65535; omega⟩, ⟨by simp only; omega, by simp only; omega⟩, h5, hp 0, hp 1, opts_ok x h4⟩
  refine ⟨hok, Nat.le_trans (writ_le _ hok) ?_⟩
  rw [e]
  show whlQ x.q + whlR [] + whlR [] + whlR (optsP x) ≤ 65535
  have ho := opts_len x
  have hr : whlR [] = 0 := rfl
  have hq : whlQ x.q ≤ 300 := by
    match hx : x.q with
    | [] => show 12 ≤ 300; omega
    | [q] =>
      have := h5.2 0 (by rw [hx]; simp)
      have hs : q.name.size ≤ 255 := by
        have := this.1
        simp only [hx, List.getElem_cons_zero] at this
        exact (whole_pos this).2
      show 12 + q.name.size + 4 ≤ 300
      omega
    | a :: b :: l => rw [hx] at h6; simp at h6
  omega

theorem take_ok (id fl : Nat) (m : MI) (l : List Ev) (stream : Bool) (hid : id < 65536) (hf1 : 32768 ≤ fl) (hf2 : fl < 65536) (hm : msgOk m) : RepOk (takeP id fl m l stream) := by
  have hr : ∀ f li q, refusalP f li q ≤ 16 := fun f li q => by unfold refusalP; split <;> (try split) <;> (try split) <;> omega
  have ht : ∀ z n, toldP z n ≤ 16 := fun z n => by unfold toldP; split <;> omega
  have ho : fl ||| 1024 < 65536 := Nat.or_lt_two_pow (n := 16) hf2 (by decide)
  have ho2 : 32768 ≤ fl ||| 1024 := Nat.le_trans hf1 Nat.left_le_or
  have h0 : quesOk [] := ⟨by simp, fun i hi => absurd hi (by simp)⟩
  have hq := hm.2.2.1
  unfold takeP
  split
  · next q he =>
    rw [he] at hq
    split
    · exact ⟨hid, ho2, ho, ht _ _, hq, by simp⟩
    · exact ⟨hid, hf1, hf2, hr _ _ _, hq, by simp⟩
  · exact ⟨hid, hf1, hf2, by simp only; omega, h0, by simp⟩

theorem kept_bounds (f : Nat) : 32768 ≤ 32768 ||| (f &&& 30976) ∧ 32768 ||| (f &&& 30976) < 65536 :=
  ⟨Nat.left_le_or, Nat.or_lt_two_pow (n := 16) (by decide) (Nat.lt_of_le_of_lt Nat.and_le_right (by decide))⟩

theorem rep_ok (l : List Ev) (b : ByteArray) (stream : Bool) : RepOk (repP l b stream) := by
  obtain ⟨k1, k2⟩ := kept_bounds (num b 2 2)
  have hid := num_lt2 b 0
  unfold repP
  split
  · exact ⟨hid, k1, k2, by simp only; omega, ⟨by simp, fun i hi => absurd hi (by simp)⟩, by simp⟩
  · next m he => exact take_ok _ _ _ _ _ hid k1 k2 (parse_well b m he)

end Go.Proofs.YtdhobdmhnocbgaaGreat

namespace Go.Proofs.YtdhobdmhnocbgaaGreat
open Go.RowKit Zr

/-- Alike but for the bytes. -/
def Like (a b : St) : Prop := a.1.size = b.1.size ∧ a.2 = b.2
theorem like_name {a b : St} (h : Like a b) (s : ByteArray) : Like (wname a s) (wname b s) := by
  obtain ⟨h1, h2⟩ := h
  unfold wname
  rw [h1, h2]
  exact ⟨by rw [ByteArray.size_append, ByteArray.size_append, h1], rfl⟩
theorem like_put {a b : St} (h : Like a b) (s : ByteArray) : Like (wput a s) (wput b s) := by
  obtain ⟨h1, h2⟩ := h
  exact ⟨by show (a.1 ++ s).size = (b.1 ++ s).size; rw [ByteArray.size_append, ByteArray.size_append, h1], h2⟩
theorem like_q {a b : St} (h : Like a b) (q : Qs) : Like (stepQ a q) (stepQ b q) := by
  unfold stepQ
  rw [h.1]
  split
  · exact h
  · exact like_put (like_put (like_name h _) _) _
theorem like_r {a b : St} (h : Like a b) (x : Rc) : Like (stepR a x) (stepR b x) := by
  unfold stepR
  rw [h.1]
  split
  · exact h
  · have hh : Like (whead a x) (whead b x) := like_put (like_put (like_put (like_put (like_name h _) _) _) _) _
    obtain ⟨h1, h2⟩ := hh
    unfold wrec
    rw [h1, h2]
    exact ⟨by simp only [ByteArray.size_append, h1], rfl⟩
theorem like_qs (l : List Qs) : ∀ {a b : St}, Like a b → Like (l.foldl stepQ a) (l.foldl stepQ b) := by
  induction l with
  | nil => exact fun h => h
  | cons q l ih => exact fun h => ih (like_q h q)
theorem like_rs (l : List Rc) : ∀ {a b : St}, Like a b → Like (l.foldl stepR a) (l.foldl stepR b) := by
  induction l with
  | nil => exact fun h => h
  | cons q l ih => exact fun h => ih (like_r h q)

theorem goes_le {a b : St} (h : Goes a b) : a.1.size ≤ b.1.size := by
  obtain ⟨t, h⟩ := h
  rw [h, ByteArray.size_append]
  omega

theorem short_root (K : List (ByteArray × Nat)) (p : Nat) : short K ⟨#[0]⟩ p = (⟨#[0]⟩, []) := by
  unfold short
  show shF K ⟨#[0]⟩ p (1 + 1) 0 = _
  unfold shF
  rw [if_pos (by decide)]
  rfl
theorem opt_step (st : St) (t : Nat) (h : st.1.size ≤ 65535) : (stepR st (optR t).nat).1.size = st.1.size + 11 := by
  unfold stepR
  rw [if_neg (by omega)]
  have hn : (whead st (optR t).nat).1.size = st.1.size + 9 := by
    show ((((wname st ⟨#[0]⟩).1 ++ wd _) ++ wd _ ++ wd _) ++ wd _).size = _
    unfold wname
    rw [short_root]
    simp only [ByteArray.size_append, wd_size]
    show st.1.size + 1 + 2 + 2 + 2 + 2 = _
    omega
  have hd : ∀ K p, (sdata K (optR t).nat.data (optR t).nat.ty p).1 = ⟨#[]⟩ := fun K p => by
    show (sdata K ⟨#[]⟩ 41 p).1 = _
    rfl
  unfold wrec
  rw [hd]
  simp only [ByteArray.size_append, wd_size, hn]
  show st.1.size + 9 + 2 + 0 = _
  omega

/-- The sets stand in the order of their parts. -/
def Parted (L : List ST) : Prop := L.Pairwise fun a b => a.part ≤ b.part
theorem partP_one (s : ST) (p : Nat) : partP [s] p = if s.part = p then s.l else [] := by
  unfold partP
  by_cases h : s.part = p
  · rw [List.filter_cons_of_pos (by simpa using h), if_pos h]; simp
  · rw [List.filter_cons_of_neg (by simpa using h), if_neg h]; simp
theorem partP_none {L : List ST} {p : Nat} (h : ∀ s, s ∈ L → s.part ≠ p) : partP L p = [] := by
  unfold partP
  have : L.filter (fun s => decide (s.part = p)) = [] := by
    rw [List.filter_eq_nil_iff]
    intro s hs
    simpa using h s hs
  rw [this]
  rfl
/-- Parts one behind the other are the sets one behind the other. -/
theorem parts_flat (L : List ST) (hp : Parted L) (h2 : ∀ s, s ∈ L → s.part ≤ 2) : partP L 0 ++ partP L 1 ++ partP L 2 = L.flatMap ST.l := by
  induction L with
  | nil => rfl
  | cons s L ih =>
    obtain ⟨hs, hL⟩ := List.pairwise_cons.1 hp
    have ih' := ih hL (fun t ht => h2 t (List.mem_cons_of_mem _ ht))
    have e : ∀ p, partP (s :: L) p = partP [s] p ++ partP L p := fun p => partP_cat [s] L p
    rw [e, e, e, partP_one, partP_one, partP_one, List.flatMap_cons, ← ih']
    have hs2 := h2 s (by simp)
    have h3 : s.part = 0 ∨ s.part = 1 ∨ s.part = 2 := by omega
    rcases h3 with q | q | q
    · simp [q]
    · have n0 : partP L 0 = [] := partP_none fun t ht => by have := hs t ht; omega
      simp [q, n0]
    · have n0 : partP L 0 = [] := partP_none fun t ht => by have := hs t ht; omega
      have n1 : partP L 1 = [] := partP_none fun t ht => by have := hs t ht; omega
      simp [q, n0, n1]

theorem part_front {A B : List RI} {p : Nat} (h : partOk (A ++ B) p) : partOk A p := by
  obtain ⟨h1, h2⟩ := h
  refine ⟨by rw [List.length_append] at h1; omega, fun i hi => ?_⟩
  have := h2 i (by rw [List.length_append]; omega)
  rw [List.getElem_append_left hi, List.take_append_of_le_length (by omega)] at this
  exact this

theorem take_more (L : List ST) (c : Nat) (h : c < L.length) (p : Nat) : partP (L.take (c + 1)) p = partP (L.take c) p ++ partP [L[c]] p := by
  rw [List.take_succ_eq_append_getElem h, partP_cat]

/-- What is written of a reply, up to its options. -/
def bodyS (x : Rep) (c : Nat) : St := ((x.sets.take c).flatMap ST.l |>.map RI.nat).foldl stepR ((x.q.map QI.nat).foldl stepQ (wtop (repMsg x c).nat))
theorem writ_body (x : Rep) (c : Nat) (hp : Parted x.sets) (h2 : ∀ s, s ∈ x.sets → s.part ≤ 2) : writ (repMsg x c).nat = ((optsP x).map RI.nat).foldl stepR (bodyS x c) := by
  have hf := parts_flat (x.sets.take c) (hp.sublist (List.take_sublist _ _)) (fun s hs => h2 s (List.mem_of_mem_take hs))
  unfold bodyS
  rw [← hf]
  show (((partP (x.sets.take c) 2 ++ optsP x).map RI.nat).foldl stepR (((partP (x.sets.take c) 1).map RI.nat).foldl stepR (((partP (x.sets.take c) 0).map RI.nat).foldl stepR ((x.q.map QI.nat).foldl stepQ _)))) = _
  simp only [List.map_append, List.foldl_append]
theorem body_le (x : Rep) (c : Nat) (h : c < x.sets.length) : (bodyS x c).1.size ≤ (bodyS x (c + 1)).1.size := by
  have hl : Like (wtop (repMsg x c).nat) (wtop (repMsg x (c + 1)).nat) := ⟨by rw [top_size, top_size], rfl⟩
  have h1 := like_rs ((x.sets.take c).flatMap ST.l |>.map RI.nat) (like_qs (x.q.map QI.nat) hl)
  have h2 : bodyS x (c + 1) = (x.sets[c].l.map RI.nat).foldl stepR (((x.sets.take c).flatMap ST.l |>.map RI.nat).foldl stepR ((x.q.map QI.nat).foldl stepQ (wtop (repMsg x (c + 1)).nat))) := by
    unfold bodyS
    rw [List.take_succ_eq_append_getElem h, List.flatMap_append, List.map_append, List.foldl_append]
    simp
  rw [h2]
  have h3 := goes_le (goes_rs (x.sets[c].l.map RI.nat) (((x.sets.take c).flatMap ST.l |>.map RI.nat).foldl stepR ((x.q.map QI.nat).foldl stepQ (wtop (repMsg x (c + 1)).nat))))
  have h4 := h1.1
  unfold bodyS
  omega
theorem opts_size (x : Rep) (st : St) (h : (((optsP x).map RI.nat).foldl stepR st).1.size ≤ 65535) : st.1.size ≤ 65535 ∧ (((optsP x).map RI.nat).foldl stepR st).1.size = st.1.size + (if x.opt then 11 else 0) := by
  have hle := goes_le (goes_rs ((optsP x).map RI.nat) st)
  have hs : st.1.size ≤ 65535 := by omega
  refine ⟨hs, ?_⟩
  unfold optsP
  split
  · exact opt_step st x.told hs
  · rfl

/-- A set less fits too. -/
theorem fit_less (x : Rep) (c : Nat) (hx : x.fl < 65536) (ht : x.told ≤ 16) (hp : Parted x.sets) (h2 : ∀ s, s ∈ x.sets → s.part ≤ 2) (hc : c < x.sets.length) (h : Fit x (c + 1)) : Fit x c := by
  obtain ⟨hok, hs, hl⟩ := h
  rw [writ_body x (c + 1) hp h2] at hs hl
  obtain ⟨s1, s2⟩ := opts_size x _ hs
  rw [s2] at hs hl
  have hb := body_le x c hc
  have hw : (writ (repMsg x c).nat).1.size ≤ (bodyS x (c + 1)).1.size + (if x.opt then 11 else 0) := by
    rw [writ_body x c hp h2]
    unfold optsP
    split
    · next ho =>
      have := opt_step (bodyS x c) x.told (by omega)
      show (stepR (bodyS x c) (optR x.told).nat).1.size ≤ _
      omega
    · show (bodyS x c).1.size ≤ _
      omega
  refine ⟨?_, by omega, by omega⟩
  obtain ⟨k1, _, k3, k4, k5, k6⟩ := hok
  have k4' : partOk (partP (x.sets.take (c + 1)) 0) 0 := k4
  have k5' : partOk (partP (x.sets.take (c + 1)) 1) 1 := k5
  have k6' : partOk (partP (x.sets.take (c + 1)) 2 ++ optsP x) 2 := k6
  rw [take_more x.sets c hc] at k4' k5' k6'
  have hfl := cut_lt x.sets c (x.fl ||| x.told % 16) (Nat.or_lt_two_pow (n := 16) hx (by omega)) x.sets.length
  refine ⟨k1, ⟨by show (0 : Int) ≤ ((_ : Nat) : Int); omega, by show ((_ : Nat) : Int) ≤ 65535; omega⟩, k3, part_front k4', part_front k5', ?_⟩
  show partOk (partP (x.sets.take c) 2 ++ optsP x) 2
  have kf := part_front (part_front k6')
  have ho := opts_ok x ht
  unfold optsP at k6' ho ⊢
  split
  · next hop =>
    rw [if_pos hop] at k6' ho
    refine ⟨?_, fun i hi => ?_⟩
    · have := k6'.1
      simp only [List.length_append] at this ⊢
      omega
    · rcases Nat.lt_or_ge i (partP (x.sets.take c) 2).length with q | q
      · rw [List.getElem_append_left q, List.take_append_of_le_length (by omega)]
        exact kf.2 i q
      · have ei : i = (partP (x.sets.take c) 2).length := by simp only [List.length_append, List.length_cons, List.length_nil] at hi; omega
        subst ei
        rw [List.getElem_append_right (Nat.le_refl _)]
        simp only [Nat.sub_self, List.getElem_cons_zero, List.take_left]
        refine ⟨(ho.2 0 (by simp)).1, fun hm => ?_⟩
        have := (k6'.2 (partP (x.sets.take c) 2 ++ partP [x.sets[c]] 2).length (by simp)).2
        rw [List.getElem_append_right (Nat.le_refl _)] at this
        simp only [Nat.sub_self, List.getElem_cons_zero, List.take_left] at this
        refine this ⟨hm.1, ?_⟩
        rcases hm.2 with ⟨y, hy, hy2⟩ | q | q
        · exact .inl ⟨y, List.mem_append_left _ hy, hy2⟩
        · exact .inr (.inl q)
        · exact .inr (.inr q)
  · rw [List.append_nil]
    exact kf

theorem fit_down (x : Rep) (hx : x.fl < 65536) (ht : x.told ≤ 16) (hp : Parted x.sets) (h2 : ∀ s, s ∈ x.sets → s.part ≤ 2) (c : Nat) : ∀ d, c + d ≤ x.sets.length → Fit x (c + d) → Fit x c
  | 0, _, h => h
  | d + 1, hd, h => fit_down x hx ht hp h2 c d (by omega) (fit_less x (c + d) hx ht hp h2 (by omega) h)

theorem fitting_one (x : Rep) (hx : x.fl < 65536) (ht : x.told ≤ 16) (hp : Parted x.sets) (h2 : ∀ s, s ∈ x.sets → s.part ≤ 2) {c d : Nat} (h : Fitting x c) (k : Fitting x d) : c = d := by
  have key : ∀ {c d : Nat}, Fitting x c → Fitting x d → ¬ c < d := by
    intro c d h k hlt
    have hd : Fit x d := by
      rcases k.2.1 with q | q
      · omega
      · exact q
    have : Fit x (c + 1) := fit_down x hx ht hp h2 (c + 1) (d - (c + 1)) (by have := k.1; omega) (by rw [show c + 1 + (d - (c + 1)) = d by omega]; exact hd)
    rcases h.2.2 with q | q
    · have := k.1; omega
    · exact q this
  have := key h k
  have := key k h
  omega

theorem Parted.want {z : List RI} {L : List ST} (h : Parted L) (p : Nat) (hp : ∀ s, s ∈ L → s.part ≤ p) (n : ByteArray) (t : Int) : Parted (wantP z L p n t) ∧ ∀ s, s ∈ wantP z L p n t → s.part ≤ p := by
  unfold wantP
  split
  · exact ⟨h, hp⟩
  · refine ⟨List.pairwise_append.2 ⟨h, by simp, fun a ha b hb => ?_⟩, fun s hs => ?_⟩
    · rw [List.mem_singleton] at hb
      subst hb
      exact hp a ha
    · rcases List.mem_append.1 hs with q | q
      · exact hp s q
      · rw [List.mem_singleton] at q
        subst q
        exact Nat.le_refl _
theorem Parted.all {z : List RI} (n : ByteArray) : ∀ j, Parted (wantTo z n [] j) ∧ ∀ s, s ∈ wantTo z n [] j → s.part ≤ 0
  | 0 => ⟨List.Pairwise.nil, fun s hs => by cases hs⟩
  | j + 1 => by
    have ih := Parted.all (z := z) n j
    rcases Nat.lt_or_ge j z.length with k | k
    · rw [wantTo_step z n [] j k]
      split
      · exact ih.1.want 0 ih.2 n _
      · exact ih
    · show Parted (match z[j]? with | none => _ | some x => _ : List ST) ∧ ∀ s, s ∈ (match z[j]? with | none => _ | some x => _ : List ST) → _
      rw [List.getElem?_eq_none k]
      exact ih
theorem parted_answ (z : List RI) (n : ByteArray) (t : Int) : Parted (answP z [] n t) ∧ ∀ s, s ∈ answP z [] n t → s.part ≤ 0 := by
  have h0 : Parted [] ∧ ∀ s, s ∈ ([] : List ST) → s.part ≤ 0 := ⟨List.Pairwise.nil, fun s hs => by cases hs⟩
  unfold answP
  split
  · exact Parted.all n _
  · split
    · exact h0.1.want 0 h0.2 n 5
    · have h1 := h0.1.want (z := z) 0 h0.2 n 5
      exact h1.1.want 0 h1.2 _ t
theorem parted_main (z : List RI) (n : ByteArray) (t : Int) : Parted (mainP z n t) ∧ ∀ s, s ∈ mainP z n t → s.part ≤ 1 := by
  obtain ⟨h1, h2⟩ := parted_answ z n t
  unfold mainP soaP
  split
  · exact ⟨h1, fun s hs => by have := h2 s hs; omega⟩
  · exact h1.want 1 (fun s hs => by have := h2 s hs; omega) _ 6
theorem parted_hosts (z sv : List RI) (L : List ST) (h : Parted L) (hL : ∀ s, s ∈ L → s.part ≤ 2) : ∀ j, j ≤ sv.length → Parted (hostsTo z sv L j).2 ∧ ∀ s, s ∈ (hostsTo z sv L j).2 → s.part ≤ 2
  | 0, _ => ⟨h, hL⟩
  | j + 1, hj => by
    obtain ⟨i1, i2⟩ := parted_hosts z sv L h hL j (by omega)
    obtain ⟨s1, s2⟩ := hosts_step z sv L j (by omega)
    rcases Nat.lt_or_ge (seekP z (targetP sv[j].data) (hostsTo z sv L j).1) z.length with k | k
    · rw [s1 k]
      refine ⟨List.pairwise_append.2 ⟨i1, by simp, fun a ha b hb => ?_⟩, fun s hs => ?_⟩
      · rw [List.mem_singleton] at hb
        subst hb
        exact i2 a ha
      · rcases List.mem_append.1 hs with q | q
        · exact i2 s q
        · rw [List.mem_singleton] at q
          subst q
          exact Nat.le_refl _
    · rw [s2 k]
      exact ⟨i1, i2⟩
theorem parted_sets (z : List RI) (n : ByteArray) (t : Int) : Parted (setsP z n t) ∧ ∀ s, s ∈ setsP z n t → s.part ≤ 2 := by
  unfold setsP
  split
  · obtain ⟨h1, h2⟩ := parted_main z n t
    exact parted_hosts z _ _ h1 (fun s hs => by have := h2 s hs; omega) _ (Nat.le_refl _)
  · have h0 : Parted [] ∧ ∀ s, s ∈ ([] : List ST) → s.part ≤ 1 := ⟨List.Pairwise.nil, fun s hs => by cases hs⟩
    have h1 := h0.1.want (z := z) 1 h0.2 originB 6
    exact ⟨h1.1, fun s hs => by have := h1.2 s hs; omega⟩

theorem rep_parted (l : List Ev) (b : ByteArray) (stream : Bool) : Parted (repP l b stream).sets ∧ ∀ s, s ∈ (repP l b stream).sets → s.part ≤ 2 := by
  have h0 : Parted [] ∧ ∀ s, s ∈ ([] : List ST) → s.part ≤ 2 := ⟨List.Pairwise.nil, fun s hs => by cases hs⟩
  unfold repP
  split
  · exact h0
  · unfold takeP
    split
    · split
      · exact parted_sets _ _ _
      · exact h0
    · exact h0

/-- There is one answer only. -/
theorem resp_one (l : List Ev) (b : ByteArray) (stream : Bool) {s t : ByteArray} (h : RespIs l b stream s) (k : RespIs l b stream t) : s = t := by
  rcases h with ⟨m, h⟩ | ⟨m, c, e, hf, hs⟩ <;> rcases k with ⟨n, k⟩ | ⟨n, d, f, kf, ks⟩
  · rw [h, k]
  · exact absurd m n
  · exact absurd n m
  · obtain ⟨h1, h2, h3, h4, _⟩ := rep_ok l b stream
    obtain ⟨p1, p2⟩ := rep_parted l b stream
    have := fitting_one _ h3 h4 p1 p2 hf kf
    subst this
    exact (hs.same ks).1

end Go.Proofs.YtdhobdmhnocbgaaGreat

namespace Go.Proofs.YtdhobdmhnocbgaaGreat
open Go.RowKit Zr

theorem num_two' (b : ByteArray) (i : Nat) : num b i 2 = 256 * bt b i + bt b (i + 1) := by simp only [num]; rw [Nat.add_zero]; omega

theorem none_size (x : Rep) (h : RepOk x) : (writ (repMsg x 0).nat).1.size ≤ 512 := by
  obtain ⟨hok, _⟩ := rep_none x h
  have hx := h
  obtain ⟨h1, h2, h3, h4, h5, h6⟩ := h
  have e : repMsg x 0 = ⟨x.id, (flagTo x.sets 0 (x.fl ||| x.told % 16) x.sets.length : Nat), x.q, [], [], optsP x⟩ := by
    unfold repMsg
    simp [partP]
  refine Nat.le_trans (writ_le _ hok) ?_
  rw [e]
  show whlQ x.q + whlR [] + whlR [] + whlR (optsP x) ≤ 512
  have ho := opts_len x
  have hr : whlR [] = 0 := rfl
  have hq : whlQ x.q ≤ 300 := by
    match hx : x.q with
    | [] => show 12 ≤ 300; omega
    | [q] =>
      have := h5.2 0 (by rw [hx]; simp)
      have hs : q.name.size ≤ 255 := by
        have := this.1
        simp only [hx, List.getElem_cons_zero] at this
        exact (whole_pos this).2
      show 12 + q.name.size + 4 ≤ 300
      omega
    | a :: b :: l => rw [hx] at h6; simp at h6
  omega

end Go.Proofs.YtdhobdmhnocbgaaGreat

namespace Go.Proofs.YtdhobdmhnocbgaaGreat
open Go.RowKit Zr

theorem num2_is (b : ByteArray) (i : Nat) : num b i 2 = 256 * bt b i + bt b (i + 1) := by simp only [num]; rw [Nat.add_zero]; omega

/-- A message that came out of Parse: its value, its rows. -/
theorem msgIs_rows {w : World} {N : Nat} {v : Value} {m : Msg} (h : MsgIs w N v m) : ∃ a1 c1 a2 c2 a3 c3 a4 c4,
    v = .agg #[.int .i64 m.int.id, .int .i64 m.int.flags, .slice a1 m.int.q.length c1, .slice a2 m.int.a.length c2, .slice a3 m.int.u.length c3, .slice a4 m.int.x.length c4] ∧ QueRow w a1 m.int.q ∧ m.int.q.length ≤ c1 ∧ RecRow w a4 m.int.x := by
  obtain ⟨a1, c1, a2, c2, a3, c3, a4, c4, rfl, o1, o2, o3, o4, _⟩ := h
  rw [qcells_int] at o1
  rw [rcells_int] at o4
  have e1 : m.int.q.length = m.q.length := by simp [Msg.int]
  have e2 : m.int.a.length = m.a.length := by simp [Msg.int]
  have e3 : m.int.u.length = m.u.length := by simp [Msg.int]
  have e4 : m.int.x.length = m.x.length := by simp [Msg.int]
  rw [← e1] at o1
  rw [← e4] at o4
  refine ⟨a1, c1, a2, c2, a3, c3, a4, c4, by rw [e1, e2, e3, e4]; rfl, ?_, ?_, (owns_recRow o4).1⟩
  · intro hl
    rcases o1.2 with ⟨_, h2⟩ | ⟨g, cap, cur, h1, _, h3, h4, _, h6, h7⟩
    · exact absurd (List.length_eq_zero_iff.1 h2) hl
    · cases h1
      refine ⟨g, 0, cur, rfl, h3, fun j u hu => ?_⟩
      have hu' : (qcI (m.q.map Qs.int))[j]? = some u := hu
      rw [← h7] at hu'
      have hj : j < m.int.q.length * 3 := by
        have := (List.getElem?_eq_some_iff.1 hu').1
        rw [List.length_take] at this
        omega
      rw [List.getElem?_take_of_lt hj] at hu'
      rw [Nat.zero_add, ← hu']
      simp
  · rcases o1.2 with ⟨_, h2⟩ | ⟨g, cap, cur, h1, _, h3, h4, _⟩
    · omega
    · cases h1
      exact h4

/-- What Respond leaves. -/
def RespOut (w : World) (l : List Ev) (b : ByteArray) (stream : Bool) (e : Ending) (w' : World) : Prop := ∃ s, e = .returned (.string s) ∧ RespIs l b stream s ∧ Below w.heap.size w w'

set_option maxRecDepth 100000 in
set_option maxHeartbeats 4000000 in
theorem respond_m (l : List Ev) (al : Option Addr) (cl N : Nat) (b : ByteArray) (stream : Bool) (w : World) (hE : RowAt w N al (evC l)) (hN : N ≤ w.heap.size) (hl : l.length ≤ 1048576) (hz : EvSized l) (hb : b.size ≤ maxLen) :
    Calls Tryz.prog 19 #[.slice al l.length cl, .string b, .bool stream] w fun e w' => RespOut w l b stream e w' := by
  have hb' : b.size ≤ 9223372036854775807 := by unfold maxLen at hb; omega
  by_cases c1 : b.size < 12
  · have HR : Hid (RespIs l b stream ⟨#[]⟩) := .inl ⟨.inl c1, rfl⟩
    go_enter Tryz.func19, Tryz.ntmps19
    go_wp2_with fail
    go_ret
    exact ⟨_, rfl, unhide HR, Below.refl _ _⟩
  · by_cases c2 : 65535 < b.size
    · have HR : Hid (RespIs l b stream ⟨#[]⟩) := .inl ⟨.inr (.inl c2), rfl⟩
      go_enter Tryz.func19, Tryz.ntmps19
      go_wp2_with fail
      go_ret
      exact ⟨_, rfl, unhide HR, Below.refl _ _⟩
    · have g0 := bt_get b 0 (by omega)
      have g1 := bt_get b 1 (by omega)
      have g2 := bt_get b 2 (by omega)
      have g3 := bt_get b 3 (by omega)
      have l0 := bt_lt b 0
      have l1 := bt_lt b 1
      have l2 := bt_lt b 2
      have l3 := bt_lt b 3
      obtain ⟨f, hf⟩ : ∃ f, num b 2 2 = f := ⟨_, rfl⟩
      obtain ⟨id, hid⟩ : ∃ f, num b 0 2 = f := ⟨_, rfl⟩
      have hf2 : f = 256 * bt b 2 + bt b 3 := by rw [← hf]; exact num2_is b 2
      have hid2 : id = 256 * bt b 0 + bt b 1 := by rw [← hid]; exact num2_is b 0
      have hfI : (256 * (bt b 2 : Int) + (bt b 3 : Int)) = ((f : Nat) : Int) := by omega
      have hand : bits .and .i64 ((f : Nat) : Int) 32768 = ((f % 65536 / 32768 * 32768 : Nat) : Int) := by
        have h1 := i64_and_nat f 32768 (by omega) (by decide)
        have h2 : f &&& 32768 = f % 65536 / 32768 * 32768 := nat_midmask 16 15 f (by decide)
        rw [h2] at h1
        exact h1
      by_cases c3 : 128 ≤ bt b 2
      · have HR : Hid (RespIs l b stream ⟨#[]⟩) := .inl ⟨.inr (.inr c3), rfl⟩
        have hne : (((f % 65536 / 32768 * 32768 : Nat) : Int) != 0) = true := by rw [bne_iff_ne]; omega
        generalize f % 65536 / 32768 * 32768 = fa at *
        clear hf hid hf2 hid2
        go_enter Tryz.func19, Tryz.ntmps19
        go_wp2_with fail
        go_cut [7] (fun v w' => v = .int .i64 ((f : Nat) : Int) ∧ Hid (Below w.heap.size w w'))
        case first =>
          go_region
          all_goals go_wp2_with fail
          all_goals go_meet
          all_goals exact ⟨by first | rfl | rw [hfI], below_drew (Below.refl _ _)⟩
        case rest =>
          obtain ⟨rfl, HB0⟩ := hcut
          go_wp2_with fail
          go_ret
          exact ⟨_, rfl, unhide HR, unhide HB0⟩
      · have hne : (((f % 65536 / 32768 * 32768 : Nat) : Int) != 0) = false := by rw [bne_eq_false_iff_eq]; omega
        have hmute : ¬ Mute b := by
          rintro (h | h | h) <;> omega
        have hk := kept_bounds f
        obtain ⟨fl, hfl⟩ : ∃ fl, 32768 ||| (f &&& 30976) = fl := ⟨_, rfl⟩
        rw [hfl] at hk
        have hkept : bits .or .i64 32768 (bits .and .i64 ((f : Nat) : Int) 30976) = ((fl : Nat) : Int) := by
          have h1 := i64_and_nat f 30976 (by omega) (by decide)
          have h4 : bits .and .i64 ((f : Nat) : Int) 30976 = ((f &&& 30976 : Nat) : Int) := by simpa using h1
          rw [h4]
          have h5 := i64_or_nat 32768 (f &&& 30976) (by decide) (Nat.lt_of_le_of_lt Nat.and_le_right (by decide))
          rw [hfl] at h5
          simpa using h5
        have hidI : (256 * (bt b 0 : Int) + (bt b 1 : Int)) = ((id : Nat) : Int) := by omega
        have hidl : id < 65536 := by omega
        have HRep : Hid (∀ s, (∃ c e, Fitting (repP l b stream) c ∧ SerIs (repMsg (repP l b stream) c) s e) → RespIs l b stream s) := fun s h => .inr ⟨hmute, h⟩
        have HNo : Hid (∀ x, parseP b = .error x → repP l b stream = ⟨id, fl, 1, [], false, [], 0⟩) := fun x h => by
          unfold repP
          rw [h, hid, hf, hfl]
        have HYes : Hid (∀ m, parseP b = .ok m → repP l b stream = takeP id fl m.int l stream ∧ msgOk m.int) := fun m h => ⟨by
          unfold repP
          rw [h]
          simp only
          rw [hid, hf, hfl], parse_well b m h⟩
        have kp := fun (W : World) => wireParse_any b W hb
        have KP := hide kp
        have HE := hide hE
        generalize f % 65536 / 32768 * 32768 = fa at *
        clear hf hid hf2 hid2 hfl hmute kp hE
        go_enter Tryz.func19, Tryz.ntmps19
        go_wp2_with fail
        go_cut [7] (fun v w' => v = .int .i64 ((f : Nat) : Int) ∧ Hid (Below w.heap.size w w'))
        case first =>
          go_region
          all_goals go_wp2_with fail
          all_goals go_meet
          all_goals exact ⟨by first | rfl | rw [hfI], below_drew (Below.refl _ _)⟩
        case rest =>
          obtain ⟨rfl, HB0⟩ := hcut
          go_wp2_with fail
          obtain ⟨W0, hW0⟩ : ∃ W0, wc = W0 := ⟨_, rfl⟩
          go_cut [8] (fun v w' => v = .pointer (some ⟨W0.heap.size, 0, none⟩) ∧ Hid (Below W0.heap.size W0 w') ∧ Hid (w'.heap[W0.heap.size]? = some (.cells #[.int .i64 (id : Nat), .int .i64 (fl : Nat), .int .i64 0, .slice none 0 0, .bool false, .slice none 0 0, .int .i64 0] 76 (0, 0))))
          case first =>
            subst hW0
            go_region
            all_goals go_wp2_with fail
            all_goals go_meet
            all_goals exact ⟨rfl, below_drew ((Below.refl _ _).alloc (Nat.le_refl _) _), heap_alloc_new _ _⟩
          case rest =>
            obtain ⟨rfl, HB2, HX2⟩ := hcut
            rw [hW0] at HB0
            obtain ⟨X, hX0⟩ : ∃ X, W0.heap.size = X := ⟨_, rfl⟩
            have hsz0 := (unhide HB0).size
            have hBw := (unhide HB0).trans ((unhide HB2).mono (unhide HB0).size)
            rw [hX0] at HX2 hsz0
            have HBw := hide hBw
            clear hBw HB0 HB2 hW0
            rw [hX0]
            clear hX0
            have hlX := blk_lt (unhide HX2)
            have kpw := unhide KP wc
            cases hp : parseP b with
            | error x =>
              have hrep := unhide HNo x hp
              have hxn := parse_err b x hp
              rw [hp] at kpw
              have f1 : (x == 0) = false := beq_eq_false_iff_ne.2 hxn
              rw [hrep] at HRep
              have KPw := hide kpw
              clear kpw hrep hp hxn HNo HYes
              go_wp2_with fail
              refine (unhide KPw).mono ?_
              rintro e w2 ⟨v, rfl, hmi, hb2⟩
              obtain ⟨a1, c1, a2, c2, a3, c3, a4, c4, rfl, _⟩ := msgIs_rows hmi
              have hX3 := (hb2.block X hlX).trans (unhide HX2)
              have hB3 := (unhide HBw).trans (hb2.mono (unhide HBw).size)
              obtain ⟨⟨x0, x1, x2, x3, x4, x5, x6⟩, y0, y1, y2, y3, y4, y5, y6⟩ := an_cells7 hX3
              have hlX3 := blk_lt hX3
              generalize (msgOf (.error x)).int = m at *
              have hX4 := (Below.heap_alloc (w2.setCell ⟨X, 2, none⟩ (.int .i64 1)) (.cells #[.int .i64 m.id, .int .i64 m.flags, .slice a1 m.q.length c1, .slice a2 m.a.length c2, .slice a3 m.u.length c3, .slice a4 m.x.length c4] 32) X (by rw [size_set]; exact hlX3)).trans (blk_set hX3 2 (.int .i64 1))
              have hRp : Rp ((w2.setCell ⟨X, 2, none⟩ (.int .i64 1)).alloc (.cells #[.int .i64 m.id, .int .i64 m.flags, .slice a1 m.q.length c1, .slice a2 m.a.length c2, .slice a3 m.u.length c3, .slice a4 m.x.length c4] 32)) X ⟨id, fl, 1, [], false, [], 0⟩ := ⟨none, 0, none, 0, hX4, fun h => absurd rfl h, Nat.le_refl _, ques_nil, fun i hi => absurd hi (Nat.not_lt_zero i), sets_nil, Nat.zero_le _, hidl, hk.2, by show 1 ≤ 16; omega, Nat.zero_le _⟩
              have hB4 := (hB3.setCell (p := ⟨X, 2, none⟩) hsz0 (.int .i64 1)).alloc (by rw [size_set]; omega) (.cells #[.int .i64 m.id, .int .i64 m.flags, .slice a1 m.q.length c1, .slice a2 m.a.length c2, .slice a3 m.u.length c3, .slice a4 m.x.length c4] 32)
              have kb := bytes_m X _ _ hRp
              have KB := hide kb
              have HB4 := hide hB4
              clear hmi hb2 hX3 hB3 hX4 hRp hB4 kb
              simp only [errOf]
              go_wp2_with fail
              refine (unhide KB).mono ?_
              rintro e w5 ⟨s, rfl, hs, hb5⟩
              have HS := hide (unhide HRep s hs)
              have HB5 := hide ((unhide HB4).trans (hb5.mono (unhide HB4).size))
              clear hs hb5 KB
              go_wp2_with fail
              go_ret
              exact ⟨s, rfl, unhide HS, unhide HB5⟩
            | ok mm =>
              obtain ⟨hrep, hok⟩ := unhide HYes mm hp
              rw [hp] at kpw
              rw [hrep] at HRep
              have KPw := hide kpw
              have HOk := hide hok
              clear kpw hrep hp hok HNo HYes
              go_wp2_with fail
              refine (unhide KPw).mono ?_
              rintro e w2 ⟨v, rfl, hmi, hb2⟩
              have hmi' : MsgIs w2 wc.heap.size v mm := hmi
              obtain ⟨a1, c1, a2, c2, a3, c3, a4, c4, rfl, hq, hq2, hr⟩ := msgIs_rows hmi'
              have hX3 := (hb2.block X hlX).trans (unhide HX2)
              have hB3 := (unhide HBw).trans (hb2.mono (unhide HBw).size)
              have hlX3 := blk_lt hX3
              generalize mm.int = m at *
              have hbm : Below w2.heap.size w2 (w2.alloc (.cells #[.int .i64 m.id, .int .i64 m.flags, .slice a1 m.q.length c1, .slice a2 m.a.length c2, .slice a3 m.u.length c3, .slice a4 m.x.length c4] 32)) := (Below.refl _ _).alloc (Nat.le_refl _) _
              have hB4 := hB3.trans (hbm.mono hB3.size)
              have kt := take_m X w.heap.size id fl m a1 c1 a2 c2 a3 c3 a4 c4 l al cl stream _ ((hbm.block X hlX3).trans hX3) (((unhide HE).mono hN).below hB4) hsz0 hl hz (hq.below hbm) hq2 (hr.below hbm) (unhide HOk) hidl hk.2
              have hlX4 : X < (w2.alloc (.cells #[.int .i64 m.id, .int .i64 m.flags, .slice a1 m.q.length c1, .slice a2 m.a.length c2, .slice a3 m.u.length c3, .slice a4 m.x.length c4] 32)).heap.size := by simp; omega
              have KT := hide kt
              have HB4 := hide hB4
              clear hmi hmi' hb2 hX3 hB3 hbm hB4 kt hq hr
              simp only [errOf]
              go_wp2_with fail
              refine (unhide KT).mono ?_
              rintro e w5 ⟨rfl, hR5, hG5⟩
              have hB5 := (unhide HB4).trans (grown_low hG5 hsz0 hlX4)
              have kb := bytes_m X _ _ hR5
              have KB := hide kb
              have HB5 := hide hB5
              clear hR5 hG5 hB5 kb KT
              go_wp2_with fail
              refine (unhide KB).mono ?_
              rintro e w6 ⟨s, rfl, hs, hb6⟩
              have HS := hide (unhide HRep s hs)
              have HB6 := hide ((unhide HB5).trans (hb6.mono (unhide HB5).size))
              clear hs hb6 KB
              go_wp2_with fail
              go_ret
              exact ⟨s, rfl, unhide HS, unhide HB6⟩

end Go.Proofs.YtdhobdmhnocbgaaGreat

namespace Go.Proofs.YtdhobdmhnocbgaaGreat
open Go.RowKit Zr

set_option maxRecDepth 100000 in
set_option maxHeartbeats 1000000 in
theorem zoneRespond_m (l : List Ev) (al : Option Addr) (cl N : Nat) (b : ByteArray) (stream : Bool) (w : World) (hE : RowAt w N al (evC l)) (hN : N ≤ w.heap.size) (hl : l.length ≤ 1048576) (hz : EvSized l) (hb : b.size ≤ maxLen) :
    Calls Tryz.prog 7 #[.slice al l.length cl, .string b, .bool stream] w fun e w' => RespOut w l b stream e w' := by
  have kr := respond_m l al cl N b stream w hE hN hl hz hb
  have KR := hide kr
  clear kr
  go_enter Tryz.func7, Tryz.ntmps7
  go_wp2_with fail
  refine (unhide KR).mono ?_
  rintro e w1 ⟨s, rfl, hs, hb1⟩
  have HS := hide hs
  clear hs
  go_wp2_with fail
  go_ret
  exact ⟨s, rfl, unhide HS, hb1⟩

def askB : ByteArray := ⟨#[0, 7, 1, 0, 0, 1, 0, 0, 0, 0, 0, 0]⟩
def badB : ByteArray := ⟨#[0, 7, 129, 1, 0, 0, 0, 0, 0, 0, 0, 0]⟩
end Go.Proofs.YtdhobdmhnocbgaaGreat
