/-
  The plain side of writing: sizes, and the names of data that are well made.
-/
import Derived.Test.YtdhobdmhnocbgaaGreatSMsgs
import Derived.Test.YtdhobdmhnocbgaaGreatSWritY
namespace Go.Proofs.YtdhobdmhnocbgaaGreat.Zr
open Go.Proofs.YtdhobdmhnocbgaaGreat

theorem namesTo_ok (d : ByteArray) (k : Nat) : ∀ i s q, namesTo d k i = .ok (s, q) → ∀ j, j < i → ∃ s' q' x t, namesTo d k j = .ok (s', q') ∧ nameAt d q' = .ok (x, t) := by
  intro i
  induction i with
  | zero => intro s q _ j hj; omega
  | succ i ih =>
    intro s q h j hj
    rw [namesTo] at h
    cases hx : namesTo d k i with
    | error e => rw [hx] at h; simp at h
    | ok z =>
      obtain ⟨s', q'⟩ := z
      rw [hx] at h
      simp only at h
      by_cases e : j = i
      · subst e
        cases hy : nameAt d q' with
        | error e => rw [hy] at h; simp at h
        | ok z =>
          obtain ⟨x, t⟩ := z
          exact ⟨s', q', x, t, hx, hy⟩
      · exact ih s' q' hx j (by omega)

theorem sd_place (K : List (ByteArray × Nat)) (d : ByteArray) (p : Nat) : ∀ i s q, namesTo d 0 i = .ok (s, q) → (sdTo K d p i).2.2 = q := by
  intro i
  induction i with
  | zero =>
    intro s q h
    simp only [namesTo, Except.ok.injEq, Prod.mk.injEq] at h
    exact h.2
  | succ i ih =>
    intro s q h
    rw [namesTo] at h
    cases hx : namesTo d 0 i with
    | error e => rw [hx] at h; simp at h
    | ok z =>
      obtain ⟨s', q'⟩ := z
      rw [hx] at h
      simp only at h
      have h1 := ih s' q' hx
      cases hy : nameAt d q' with
      | error e => rw [hy] at h; simp at h
      | ok z =>
        obtain ⟨x, t⟩ := z
        rw [hy] at h
        simp only [Except.ok.injEq, Prod.mk.injEq] at h
        rw [sdTo, h1, hy]
        exact h.2

/-- The names of data that are well made. -/
theorem wellD_names (K : List (ByteArray × Nat)) (d : ByteArray) (t p : Nat) (h : wellD t d) (hn : namesOf t ≠ 0) :
    (∀ i, i < namesOf t → ∃ x u, nameAt d (sdTo K d p i).2.2 = .ok (x, u)) ∧ (sdTo K d p (namesOf t)).2.2 + restOf t = d.size := by
  have h2 := h.2
  have key : wn d 0 d.size (namesOf t) (restOf t) = some d := by
    unfold dataP at h2
    unfold namesOf at hn ⊢
    unfold restOf
    by_cases c1 : t = 2 ∨ t = 5 ∨ t = 12
    · rw [if_pos c1] at h2 ⊢
      rw [if_pos c1]
      exact h2
    · rw [if_neg c1] at h2 hn ⊢
      rw [if_neg c1]
      by_cases c2 : t = 6
      · rw [if_pos c2] at h2 ⊢
        rw [if_pos c2]
        exact h2
      · rw [if_neg c2] at hn
        exact absurd rfl hn
  unfold wn at key
  cases hx : namesTo d 0 (namesOf t) with
  | error e => rw [hx] at key; simp at key
  | ok z =>
    obtain ⟨s, q⟩ := z
    rw [hx] at key
    simp only at key
    refine ⟨fun i hi => ?_, ?_⟩
    · obtain ⟨s', q', x, u, h3, h4⟩ := namesTo_ok d 0 _ s q hx i hi
      rw [sd_place K d p i s' q' h3]
      exact ⟨x, u, h4⟩
    · rw [sd_place K d p _ s q hx]
      by_cases c : q + restOf t = 0 + d.size
      · omega
      · rw [if_neg c] at key; simp at key

theorem sd_next (K : List (ByteArray × Nat)) (d : ByteArray) (p i : Nat) (x : ByteArray) (u : Nat) (h : nameAt d (sdTo K d p i).2.2 = .ok (x, u)) :
    sdTo K d p (i + 1) = ((sdTo K d p i).1 ++ (short (sdTo K d p i).2.1 x (p + (sdTo K d p i).1.size)).1, (sdTo K d p i).2.1 ++ (short (sdTo K d p i).2.1 x (p + (sdTo K d p i).1.size)).2, (sdTo K d p i).2.2 + u) := by
  rw [sdTo, h]

theorem sd_bounds (K : List (ByteArray × Nat)) (d : ByteArray) (p : Nat) (hK : KOk K) : ∀ i, (sdTo K d p i).1.size ≤ 256 * i ∧ (sdTo K d p i).2.1.length ≤ K.length + (sdTo K d p i).1.size ∧ KOk (sdTo K d p i).2.1 ∧ (sdTo K d p i).2.2 ≤ d.size := by
  intro i
  induction i with
  | zero => exact ⟨Nat.le_refl _, Nat.le_refl _, hK, Nat.zero_le _⟩
  | succ i ih =>
    obtain ⟨h1, h2, h3, h4⟩ := ih
    cases hx : nameAt d (sdTo K d p i).2.2 with
    | error e =>
      have e1 : sdTo K d p (i + 1) = sdTo K d p i := by rw [sdTo, hx]
      rw [e1]
      exact ⟨by omega, h2, h3, h4⟩
    | ok z =>
      obtain ⟨x, u⟩ := z
      rw [sd_next K d p i x u hx]
      have hb := nameAt_bounds d _ x u hx
      have hl := short_len (sdTo K d p i).2.1 x (p + (sdTo K d p i).1.size)
      have ho := short_ok (sdTo K d p i).2.1 x (p + (sdTo K d p i).1.size)
      simp only [ByteArray.size_append, List.length_append]
      exact ⟨by omega, by omega, h3.append ho, by omega⟩

theorem namesOf_le (t : Nat) : namesOf t ≤ 2 := by unfold namesOf; split <;> (try split) <;> omega

theorem sdata_bounds (K : List (ByteArray × Nat)) (d : ByteArray) (t p : Nat) (hK : KOk K) : (sdata K d t p).1.size ≤ 512 + d.size ∧ (sdata K d t p).2.length ≤ K.length + (sdata K d t p).1.size ∧ KOk (sdata K d t p).2 := by
  have h1 := sd_bounds K d p hK (namesOf t)
  have h2 := namesOf_le t
  unfold sdata
  simp only [ByteArray.size_append]
  have h3 : (d.extract (sdTo K d p (namesOf t)).2.2 d.size).size ≤ d.size := by rw [ByteArray.size_extract]; omega
  exact ⟨by omega, by omega, h1.2.2.1⟩

/-- Written short, a name takes no more bytes than it has. -/
theorem shF_le (K : List (ByteArray × Nat)) (s : ByteArray) (p : Nat) : ∀ f k, Tl s k → (shF K s p f k).1.size ≤ s.size - k := by
  intro f
  induction f with
  | zero => intro k _; exact Nat.zero_le _
  | succ f ih =>
    intro k ht
    have hlt := ht.lt
    by_cases c : s.size < k + 2
    · rw [shF, if_pos c]
      show (s.extract k s.size).size ≤ _
      rw [ByteArray.size_extract]; omega
    · obtain ⟨h1, h2, h3, h4⟩ := tl_step ht c
      cases hf : findK K (s.extract k s.size) with
      | some q => rw [shF_some K s p f k q c hf]; show (wd _).size ≤ _; rw [wd_size]; omega
      | none =>
        rw [shF_none K s p f k c hf]
        have := ih _ h4
        simp only [ByteArray.size_append]
        have he : (s.extract k (k + 1 + bt s k)).size = 1 + bt s k := by rw [ByteArray.size_extract]; omega
        omega
theorem short_le (K : List (ByteArray × Nat)) (s : ByteArray) (p : Nat) (h : wholeB s = true) : (short K s p).1.size ≤ s.size := by
  have := shF_le K s p (s.size + 1) 0 (tl_ok h).1
  unfold short
  omega

/-- The names of data are as long as the bytes that they take, where the data are well made. -/
theorem sd_le (K : List (ByteArray × Nat)) (d : ByteArray) (p : Nat) : ∀ i, (∀ j, j < i → ∃ x, nameAt d (sdTo K d p j).2.2 = .ok (x, x.size)) → (sdTo K d p i).1.size ≤ (sdTo K d p i).2.2 := by
  intro i
  induction i with
  | zero => intro _; exact Nat.le_refl _
  | succ i ih =>
    intro h
    have h1 := ih (fun j hj => h j (by omega))
    obtain ⟨x, hx⟩ := h i (by omega)
    rw [sd_next K d p i x x.size hx]
    have h2 := short_le (sdTo K d p i).2.1 x (p + (sdTo K d p i).1.size) (name_whole d _ x _ hx)
    simp only [ByteArray.size_append]
    omega

theorem wellD_flatNames (K : List (ByteArray × Nat)) (d : ByteArray) (t p : Nat) (h : wellD t d) : ∀ j, j < namesOf t → ∃ x, nameAt d (sdTo K d p j).2.2 = .ok (x, x.size) := by
  intro j hj
  by_cases c1 : t = 2 ∨ t = 5 ∨ t = 12
  · have e1 : namesOf t = 1 := by unfold namesOf; rw [if_pos c1]
    have e2 : j = 0 := by omega
    subst e2
    have hw := (wellD_one d t c1).1 h
    have h3 := name_head d ⟨#[]⟩ hw
    have e : d ++ (⟨#[]⟩ : ByteArray) = d := by apply ByteArray.ext; simp [ByteArray.data_append]
    rw [e] at h3
    exact ⟨d, h3⟩
  · have e0 : t = 6 := by unfold namesOf at hj; rw [if_neg c1] at hj; split at hj <;> omega
    subst e0
    obtain ⟨x, y, r, hd, hx, hy, hr⟩ := (wellD_two d).1 h
    have h1 := name_head x (y ++ r) hx
    rw [← append_assoc', ← hd] at h1
    have h2 := name_in x y r hy
    rw [← hd] at h2
    have hj2 : j < 2 := hj
    by_cases ej : j = 0
    · subst ej; exact ⟨x, h1⟩
    · have e2 : j = 1 := by omega
      subst e2
      have h3 : (sdTo K d p 1).2.2 = x.size := by
        have h1' : nameAt d (sdTo K d p 0).2.2 = .ok (x, x.size) := h1
        rw [sd_next K d p 0 x x.size h1']
        show 0 + x.size = _
        omega
      rw [h3]
      exact ⟨y, h2⟩

theorem sdata_le (K : List (ByteArray × Nat)) (d : ByteArray) (t p : Nat) (h : wellD t d) : (sdata K d t p).1.size ≤ d.size := by
  have h1 := sd_le K d p (namesOf t) (wellD_flatNames K d t p h)
  unfold sdata
  simp only [ByteArray.size_append]
  rw [ByteArray.size_extract]
  by_cases c : namesOf t = 0
  · rw [c] at h1 ⊢
    show 0 + (min d.size d.size - 0) ≤ _
    omega
  · have h2 := (wellD_names K d t p h c).2
    omega

def Fine (st : St) : Prop := st.2.length ≤ st.1.size ∧ KOk st.2

theorem wname_fine {st : St} (h : Fine st) (s : ByteArray) : Fine (wname st s) ∧ (wname st s).1.size ≤ st.1.size + s.size + 1 := by
  have h1 := short_len st.2 s st.1.size
  have h2 := short_ok st.2 s st.1.size
  unfold wname Fine
  simp only [ByteArray.size_append, List.length_append]
  exact ⟨⟨by have := h.1; omega, h.2.append h2⟩, by omega⟩
theorem wput_fine {st : St} (h : Fine st) (s : ByteArray) : Fine (wput st s) ∧ (wput st s).1.size = st.1.size + s.size := by
  unfold wput Fine
  simp only [ByteArray.size_append]
  exact ⟨⟨by have := h.1; omega, h.2⟩, trivial⟩
theorem wque_fine {st : St} (h : Fine st) (q : Qs) : Fine (wque st q) ∧ (wque st q).1.size ≤ st.1.size + q.name.size + 5 := by
  have h1 := wname_fine h q.name
  have h2 := wput_fine h1.1 (wd q.ty)
  have h3 := wput_fine h2.1 (wd q.cl)
  rw [wd_size] at h2 h3
  exact ⟨h3.1, by unfold wque; omega⟩
theorem whead_fine {st : St} (h : Fine st) (x : Rc) : Fine (whead st x) ∧ (whead st x).1.size ≤ st.1.size + x.name.size + 9 := by
  have h1 := wname_fine h x.name
  have h2 := wput_fine h1.1 (wd x.ty)
  have h3 := wput_fine h2.1 (wd x.cl)
  have h4 := wput_fine h3.1 (wd (x.ttl / 65536))
  have h5 := wput_fine h4.1 (wd (x.ttl % 65536))
  rw [wd_size] at h2 h3 h4 h5
  exact ⟨h5.1, by unfold whead; omega⟩
theorem wrec_fine {st : St} (h : Fine st) (x : Rc) : Fine (wrec st x) ∧ (wrec st x).1.size ≤ st.1.size + x.name.size + x.data.size + 523 := by
  have h1 := whead_fine h x
  have h2 := sdata_bounds (whead st x).2 x.data x.ty ((whead st x).1.size + 2) h1.1.2
  have h3 := h1.1.1
  unfold wrec Fine
  simp only [ByteArray.size_append, wd_size]
  exact ⟨⟨by omega, h2.2.2⟩, by omega⟩

theorem recOk_nat {x : RI} (h : recOk x) : x.nat.name.size ≤ 255 ∧ x.nat.data.size ≤ 65535 ∧ x.nat.ty ≤ 65535 ∧ x.nat.cl ≤ 65535 ∧ x.nat.ttl ≤ 4294967295 ∧ wholeB x.nat.name = true ∧ wellD x.nat.ty x.nat.data := by
  obtain ⟨h1, h2, h3, h4, h5⟩ := h
  unfold wordOk at h2 h3
  exact ⟨(whole_pos h1).2, h5.1, by show x.ty.toNat ≤ _; omega, by show x.cl.toNat ≤ _; omega, by show x.ttl.toNat ≤ _; omega, h1, h5⟩
theorem queOk_nat {q : QI} (h : queOk q) : q.nat.name.size ≤ 255 ∧ q.nat.ty ≤ 65535 ∧ q.nat.cl ≤ 65535 ∧ wholeB q.nat.name = true := by
  obtain ⟨h1, h2, h3⟩ := h
  unfold wordOk at h2 h3
  exact ⟨(whole_pos h1).2, by show q.ty.toNat ≤ _; omega, by show q.cl.toNat ≤ _; omega, h1⟩

theorem stepR_fine {st : St} (h : Fine st) {x : RI} (hx : recOk x) (hB : st.1.size ≤ 140000) : Fine (stepR st x.nat) ∧ (stepR st x.nat).1.size ≤ 140000 := by
  unfold stepR
  by_cases c : 65535 < st.1.size
  · rw [if_pos c]; exact ⟨h, hB⟩
  · rw [if_neg c]
    obtain ⟨h1, h2, _⟩ := recOk_nat hx
    have h3 := wrec_fine h x.nat
    exact ⟨h3.1, by omega⟩
theorem stepQ_fine {st : St} (h : Fine st) {q : QI} (hx : queOk q) (hB : st.1.size ≤ 140000) : Fine (stepQ st q.nat) ∧ (stepQ st q.nat).1.size ≤ 140000 := by
  unfold stepQ
  by_cases c : 65535 < st.1.size
  · rw [if_pos c]; exact ⟨h, hB⟩
  · rw [if_neg c]
    obtain ⟨h1, h2, _⟩ := queOk_nat hx
    have h3 := wque_fine h q.nat
    exact ⟨h3.1, by omega⟩

theorem foldR_fine {st : St} (h : Fine st) (hB : st.1.size ≤ 140000) : ∀ (l : List RI), (∀ x, x ∈ l → recOk x) → Fine ((l.map RI.nat).foldl stepR st) ∧ ((l.map RI.nat).foldl stepR st).1.size ≤ 140000 := by
  intro l
  induction l generalizing st with
  | nil => intro _; exact ⟨h, hB⟩
  | cons x l ih =>
    intro hl
    obtain ⟨h1, h2⟩ := stepR_fine h (hl x (by simp)) hB
    exact ih h1 h2 (fun y hy => hl y (List.mem_cons_of_mem _ hy))
theorem foldQ_fine {st : St} (h : Fine st) (hB : st.1.size ≤ 140000) : ∀ (l : List QI), (∀ x, x ∈ l → queOk x) → Fine ((l.map QI.nat).foldl stepQ st) ∧ ((l.map QI.nat).foldl stepQ st).1.size ≤ 140000 := by
  intro l
  induction l generalizing st with
  | nil => intro _; exact ⟨h, hB⟩
  | cons x l ih =>
    intro hl
    obtain ⟨h1, h2⟩ := stepQ_fine h (hl x (by simp)) hB
    exact ih h1 h2 (fun y hy => hl y (List.mem_cons_of_mem _ hy))

theorem part_mem {l : List RI} {part : Nat} (h : partOk l part) : ∀ x, x ∈ l → recOk x := fun x hx => by
  obtain ⟨i, hi, rfl⟩ := List.getElem_of_mem hx
  exact (h.2 i hi).1
theorem ques_mem {l : List QI} (h : quesOk l) : ∀ x, x ∈ l → queOk x := fun x hx => by
  obtain ⟨i, hi, rfl⟩ := List.getElem_of_mem hx
  exact h.2 i hi

end Go.Proofs.YtdhobdmhnocbgaaGreat.Zr
