/-
  The plain side of P9: what is written is read back, and is no longer than with whole names.
-/
import Derived.Test.YtdhobdmhnocbgaaQMsgy
namespace Go.Proofs.Ytdhobdmhnocbgaa
open Zr

/-- B stands at the front of B'. -/
def Pre (B B' : ByteArray) : Prop := B.size ≤ B'.size ∧ ∀ i, i < B.size → bt B' i = bt B i

theorem Pre.refl (B : ByteArray) : Pre B B := ⟨Nat.le_refl _, fun _ _ => rfl⟩
theorem Pre.trans {A B C : ByteArray} (h : Pre A B) (k : Pre B C) : Pre A C :=
  ⟨by have := h.1; have := k.1; omega, fun i hi => by rw [k.2 i (by have := h.1; omega), h.2 i hi]⟩
theorem pre_append (A s : ByteArray) : Pre A (A ++ s) :=
  ⟨by rw [ByteArray.size_append]; omega, fun i hi => by rw [bt_append, if_pos hi]⟩
theorem Pre.left {A s C : ByteArray} (h : Pre (A ++ s) C) : Pre A C := (pre_append A s).trans h
theorem Pre.at {A s C : ByteArray} (h : Pre (A ++ s) C) (j : Nat) (hj : j < s.size) : bt C (A.size + j) = bt s j := by
  rw [h.2 _ (by rw [ByteArray.size_append]; omega), bt_append, if_neg (by omega)]
  congr 1; omega
theorem Pre.cut {A s C : ByteArray} (h : Pre (A ++ s) C) : C.extract A.size (A.size + s.size) = s := by
  have h1 := h.1
  rw [ByteArray.size_append] at h1
  apply bt_ext
  · rw [ByteArray.size_extract]; omega
  · intro i hi
    have hi' : i < s.size := by rw [ByteArray.size_extract] at hi; omega
    rw [bt_ex _ _ _ i (by omega) (by omega), h.at i hi']

theorem Pre.word {A C : ByteArray} {n : Nat} (h : Pre (A ++ wd n) C) (hn : n < 65536) : num C A.size 2 = n := by
  have h0 := h.at 0 (by rw [wd_size]; omega)
  have h1 := h.at 1 (by rw [wd_size]; omega)
  rw [wd_0 n hn] at h0
  rw [wd_1] at h1
  simp only [num]
  rw [h0, h1]
  omega

theorem num4 (b : ByteArray) (i : Nat) : num b i 4 = 65536 * num b i 2 + num b (i + 2) 2 := by
  simp only [num]
  have e1 : i + 2 + 0 = i + 2 := rfl
  have e2 : i + 2 + 1 = i + 3 := rfl
  rw [e1, e2]
  omega

theorem name_back {st : St} (h : Known st) {s : ByteArray} (hs : wholeB s = true) {C : ByteArray} (hC : Pre (wname st s).1 C) : nameAt C st.1.size = .ok (s, (short st.2 s st.1.size).1.size) := by
  obtain ⟨t1, t2⟩ := tl_ok hs
  exact (short_read _ _ _ s (fun i hi => hi.elim) h t2 t1).2 C hC.1 (fun i hi _ => hC.2 i hi)

theorem wname_size (st : St) (s : ByteArray) : (wname st s).1.size = st.1.size + (short st.2 s st.1.size).1.size := ByteArray.size_append
theorem wput_size (st : St) (s : ByteArray) : (wput st s).1.size = st.1.size + s.size := ByteArray.size_append

theorem que_back {st : St} (h : Known st) {q : QI} (hq : queOk q) {C : ByteArray} (hC : Pre (wque st q.nat).1 C) : questionAt C st.1.size = .ok (q.nat, (wque st q.nat).1.size) := by
  obtain ⟨_, n2, n3, n4⟩ := queOk_nat hq
  have hC1 : Pre ((wname st q.nat.name).1 ++ wd q.nat.ty ++ wd q.nat.cl) C := hC
  have h1 := name_back h n4 (C := C) hC1.left.left
  have h2 := hC1.left.word (by omega)
  have h3 := hC1.word (by omega)
  have hz := hC1.1
  simp only [ByteArray.size_append, wd_size] at hz h3
  have e0 := wname_size st q.nat.name
  rw [e0] at h2 h3 hz
  unfold questionAt
  rw [h1]
  simp only
  rw [if_neg (by omega), h2, h3]
  congr 2
  show st.1.size + _ + 4 = (wput (wput (wname st q.nat.name) (wd q.nat.ty)) (wd q.nat.cl)).1.size
  rw [wput_size, wput_size, wd_size, wd_size, wname_size]

theorem flat_at (d x : ByteArray) (q : Nat) (h : nameAt d q = .ok (x, x.size)) : x = d.extract q (q + x.size) ∧ q + x.size ≤ d.size :=
  nm_bytes d _ q 0 x x.size (nm_noptr d _ q q 0 x x.size h rfl)

/-- Names of data are read back. -/
theorem sd_back (B : ByteArray) (K : List (ByteArray × Nat)) (d z : ByteArray) (hI : Inv (fun _ => False) B K) {C : ByteArray} : ∀ j, (∀ i, i < j → ∃ x, nameAt d (sdTo K d (B ++ z).size i).2.2 = .ok (x, x.size)) →
    Pre (B ++ z ++ (sdTo K d (B ++ z).size j).1) C → namesTo C (B ++ z).size j = .ok (d.extract 0 (sdTo K d (B ++ z).size j).2.2, (B ++ z).size + (sdTo K d (B ++ z).size j).1.size) ∧ (sdTo K d (B ++ z).size j).2.2 ≤ d.size := by
  intro j
  induction j with
  | zero =>
    intro _ _
    refine ⟨?_, Nat.zero_le _⟩
    show Except.ok ((⟨#[]⟩ : ByteArray), (B ++ z).size) = .ok (d.extract 0 0, (B ++ z).size + 0)
    rw [extract_self, Nat.add_zero]
  | succ j ih =>
    intro h hC
    obtain ⟨x, hx⟩ := h j (by omega)
    have hfl := flat_at d x _ hx
    have hw := name_whole d _ x _ hx
    obtain ⟨t1, t2⟩ := tl_ok hw
    have hk := sd_inv B K d hI z j (fun i hi => h i (by omega))
    rw [sd_next K d _ j x x.size hx] at hC ⊢
    simp only at hC ⊢
    rw [← append_assoc'] at hC
    obtain ⟨i1, i2⟩ := ih (fun i hi => h i (by omega)) hC.left
    have hs := (short_read _ _ _ x (fun i hi => by rw [ByteArray.size_append, ByteArray.size_append]; omega) hk t2 t1).2 C
    have e : (B ++ z ++ (sdTo K d (B ++ z).size j).1).size = (B ++ z).size + (sdTo K d (B ++ z).size j).1.size := ByteArray.size_append
    rw [e] at hs
    have hs' := hs hC.1 (fun i hi _ => hC.2 i hi)
    refine ⟨?_, hfl.2⟩
    have hj : d.extract 0 (sdTo K d (B ++ z).size j).2.2 ++ x = d.extract 0 ((sdTo K d (B ++ z).size j).2.2 + x.size) := by
      have hj0 := extract_join d 0 _ _ (Nat.zero_le _) (Nat.le_add_right (sdTo K d (B ++ z).size j).2.2 x.size) hfl.2
      rw [← hfl.1] at hj0
      exact hj0
    clear hk hC hs hx ih h
    generalize (sdTo K d (B ++ z).size j).2.2 = q0 at *
    generalize (short (sdTo K d (B ++ z).size j).2.1 x ((B ++ z).size + (sdTo K d (B ++ z).size j).1.size)).1 = S0 at *
    generalize (sdTo K d (B ++ z).size j).1 = A0 at *
    rw [namesTo, i1]
    simp only
    rw [hs']
    simp only
    rw [hj, show (A0 ++ S0).size = A0.size + S0.size from ByteArray.size_append, Nat.add_assoc (B ++ z).size]

theorem sdata_size (K : List (ByteArray × Nat)) (d : ByteArray) (t p : Nat) : (sdata K d t p).1.size = (sdTo K d p (namesOf t)).1.size + (d.size - (sdTo K d p (namesOf t)).2.2) := by
  show ((sdTo K d p (namesOf t)).1 ++ d.extract (sdTo K d p (namesOf t)).2.2 d.size).size = _
  rw [ByteArray.size_append, ByteArray.size_extract]; omega

/-- Data are read back. -/
theorem data_back (B : ByteArray) (K : List (ByteArray × Nat)) (d z : ByteArray) (t : Nat) (hI : Inv (fun _ => False) B K) (hd : wellD t d) {C : ByteArray} (hC : Pre (B ++ z ++ (sdata K d t (B ++ z).size).1) C) :
    dataP C (B ++ z).size (sdata K d t (B ++ z).size).1.size t = some d := by
  have hC2 : Pre (B ++ z ++ (sdTo K d (B ++ z).size (namesOf t)).1 ++ d.extract (sdTo K d (B ++ z).size (namesOf t)).2.2 d.size) C := by
    rw [append_assoc']
    exact hC
  have hfn := wellD_flatNames K d t (B ++ z).size hd
  obtain ⟨h1, h2⟩ := sd_back B K d z hI (namesOf t) hfn hC2.left
  have hcut := hC2.cut
  have e : (B ++ z ++ (sdTo K d (B ++ z).size (namesOf t)).1).size = (B ++ z).size + (sdTo K d (B ++ z).size (namesOf t)).1.size := ByteArray.size_append
  have es : (d.extract (sdTo K d (B ++ z).size (namesOf t)).2.2 d.size).size = d.size - (sdTo K d (B ++ z).size (namesOf t)).2.2 := by rw [ByteArray.size_extract]; omega
  rw [e, es] at hcut
  have hsz := sdata_size K d t (B ++ z).size
  have hjoin := extract_join d 0 _ _ (Nat.zero_le _) h2 (Nat.le_refl _)
  rw [extract_all] at hjoin
  by_cases c1 : t = 2 ∨ t = 5 ∨ t = 12
  · have e1 : namesOf t = 1 := by unfold namesOf; rw [if_pos c1]
    have e2 : restOf t = 0 := by unfold restOf; rw [if_pos c1]
    have h3 := (wellD_names K d t (B ++ z).size hd (by omega)).2
    rw [e2] at h3
    unfold dataP
    rw [if_pos c1]
    rw [e1] at h1 h3 hsz hcut hjoin
    rw [wn_yes C _ _ 1 0 _ _ h1 (by omega)]
    rw [show d.size - (sdTo K d (B ++ z).size 1).2.2 = 0 by omega] at hcut
    rw [hcut, hjoin]
  · by_cases c2 : t = 6
    · have e1 : namesOf t = 2 := by unfold namesOf; rw [if_neg c1, if_pos c2]
      have e2 : restOf t = 20 := by unfold restOf; rw [if_neg c1, if_pos c2]
      have h3 := (wellD_names K d t (B ++ z).size hd (by omega)).2
      rw [e2] at h3
      unfold dataP
      rw [if_neg c1, if_pos c2]
      rw [e1] at h1 h3 hsz hcut hjoin
      rw [wn_yes C _ _ 2 20 _ _ h1 (by omega)]
      rw [show d.size - (sdTo K d (B ++ z).size 2).2.2 = 20 by omega] at hcut
      rw [hcut, hjoin]
    · have e1 : namesOf t = 0 := by unfold namesOf; rw [if_neg c1, if_neg c2]
      have hs : (sdata K d t (B ++ z).size).1 = d := by
        show (sdTo K d (B ++ z).size (namesOf t)).1 ++ d.extract (sdTo K d (B ++ z).size (namesOf t)).2.2 d.size = d
        rw [e1]
        show (⟨#[]⟩ : ByteArray) ++ d.extract 0 d.size = d
        rw [empty_append, extract_all]
      rw [hs] at hC ⊢
      have hx := hC.cut
      unfold dataP
      rw [if_neg c1, if_neg c2, hx, if_pos ((wellD_flat d t c1 c2).1 hd).2]

theorem rec_back {st : St} (h : Known st) {x : RI} (hx : recOk x) {C : ByteArray} (hC : Pre (wrec st x.nat).1 C) : recordAt C st.1.size = .ok (x.nat, (wrec st x.nat).1.size) := by
  have hk := whead_known h hx
  obtain ⟨_, n2, n3, n4, n5, n6, n7⟩ := recOk_nat hx
  obtain ⟨S, hS⟩ : ∃ S, sdata (whead st x.nat).2 x.nat.data x.nat.ty ((whead st x.nat).1.size + 2) = S := ⟨_, rfl⟩
  have hle := sdata_le (whead st x.nat).2 x.nat.data x.nat.ty ((whead st x.nat).1.size + 2) n7
  have hdb := data_back (whead st x.nat).1 (whead st x.nat).2 x.nat.data (wd S.1.size) x.nat.ty hk n7 (C := C)
  have ez : ((whead st x.nat).1 ++ wd S.1.size).size = (whead st x.nat).1.size + 2 := by rw [ByteArray.size_append, wd_size]
  rw [ez] at hdb
  have ew : (wrec st x.nat).1 = (whead st x.nat).1 ++ wd S.1.size ++ S.1 := by rw [← hS]; rfl
  rw [ew] at hC ⊢
  rw [hS] at hle hdb
  have hd := hdb hC
  have hl := hC.left.word (n := S.1.size) (by omega)
  have hH : Pre ((wname st x.nat.name).1 ++ wd x.nat.ty ++ wd x.nat.cl ++ wd (x.nat.ttl / 65536) ++ wd (x.nat.ttl % 65536)) C := hC.left.left
  have h1 := name_back h n6 (C := C) hH.left.left.left.left
  have h2 := hH.left.left.left.word (by omega)
  have h3 := hH.left.left.word (by omega)
  have h4 := hH.left.word (by omega)
  have h5 := hH.word (by omega)
  have hz := hC.1
  have eh : (whead st x.nat).1.size = st.1.size + (short st.2 x.nat.name st.1.size).1.size + 8 := by
    show (wput (wput (wput (wput (wname st x.nat.name) (wd x.nat.ty)) (wd x.nat.cl)) (wd (x.nat.ttl / 65536))) (wd (x.nat.ttl % 65536))).1.size = _
    simp only [wput_size, wd_size, wname_size]
  simp only [ByteArray.size_append, wd_size, wname_size] at hz h2 h3 h4 h5 ⊢
  rw [eh] at hz hl hd ⊢
  unfold recordAt
  rw [h1]
  simp only
  generalize (short st.2 x.nat.name st.1.size).1.size = u at *
  have e8 : num C (st.1.size + u + 8) 2 = S.1.size := hl
  have e4 : num C (st.1.size + u + 4) 4 = x.nat.ttl := by
    rw [num4]
    rw [show st.1.size + u + 2 + 2 = st.1.size + u + 4 by omega] at h4
    rw [show st.1.size + u + 2 + 2 + 2 = st.1.size + u + 4 + 2 by omega] at h5
    rw [h4, h5]
    omega
  rw [if_neg (by omega), e8, if_neg (by omega), h2, h3, e4, hd]

theorem grow_que (st : St) (q : Qs) : Pre st.1 (wque st q).1 :=
  (pre_append st.1 _).trans ((pre_append _ _).trans (pre_append _ _))
theorem grow_head (st : St) (x : Rc) : Pre st.1 (whead st x).1 :=
  (pre_append st.1 _).trans ((pre_append _ _).trans ((pre_append _ _).trans ((pre_append _ _).trans (pre_append _ _))))
theorem grow_rec (st : St) (x : Rc) : Pre st.1 (wrec st x).1 :=
  (grow_head st x).trans ((pre_append _ _).trans (pre_append _ _))
theorem grow_stepQ (st : St) (q : Qs) : Pre st.1 (stepQ st q).1 := by
  unfold stepQ
  split
  · exact Pre.refl _
  · exact grow_que st q
theorem grow_stepR (st : St) (q : Rc) : Pre st.1 (stepR st q).1 := by
  unfold stepR
  split
  · exact Pre.refl _
  · exact grow_rec st q
theorem grow_foldQ : ∀ (l : List Qs) (st : St), Pre st.1 (l.foldl stepQ st).1
  | [], _ => Pre.refl _
  | q :: l, st => (grow_stepQ st q).trans (grow_foldQ l (stepQ st q))
theorem grow_foldR : ∀ (l : List Rc) (st : St), Pre st.1 (l.foldl stepR st).1
  | [], _ => Pre.refl _
  | q :: l, st => (grow_stepR st q).trans (grow_foldR l (stepR st q))

theorem stepQ_ok (st : St) (q : Qs) (h : st.1.size ≤ 65535) : stepQ st q = wque st q := by unfold stepQ; rw [if_neg (by omega)]
theorem stepR_ok (st : St) (q : Rc) (h : st.1.size ≤ 65535) : stepR st q = wrec st q := by unfold stepR; rw [if_neg (by omega)]

theorem qs_back {st : St} (h : Known st) (l : List QI) (hl : ∀ x, x ∈ l → queOk x) {C : ByteArray} (hz : ((l.map QI.nat).foldl stepQ st).1.size ≤ 65535) (hC : Pre ((l.map QI.nat).foldl stepQ st).1 C) :
    ∀ i, i ≤ l.length → qsTo C st.1.size i = .ok ((l.take i).map QI.nat, (((l.take i).map QI.nat).foldl stepQ st).1.size) := by
  intro i
  induction i with
  | zero => intro _; rfl
  | succ i ih =>
    intro hi
    have e := fold_at stepQ QI.nat l st i (by omega)
    have er := fold_rest stepQ QI.nat l st (i + 1)
    have hk := foldQ_known h (l.take i) (fun x hx => hl x (List.mem_of_mem_take hx))
    have hP : Pre (((l.take (i + 1)).map QI.nat).foldl stepQ st).1 C := by
      rw [er] at hC
      exact (grow_foldQ _ _).trans hC
    have hP0 : Pre (((l.take i).map QI.nat).foldl stepQ st).1 ((l.map QI.nat).foldl stepQ st).1 := by
      rw [fold_rest stepQ QI.nat l st i]
      exact grow_foldQ _ _
    have hs : stepQ (((l.take i).map QI.nat).foldl stepQ st) l[i].nat = wque (((l.take i).map QI.nat).foldl stepQ st) l[i].nat := by
      exact stepQ_ok _ _ (by have := hP0.1; omega)
    rw [e, hs] at hP ⊢
    rw [qsTo, ih (by omega)]
    simp only
    rw [que_back hk (hl _ (List.getElem_mem _)) hP, List.take_succ_eq_append_getElem (by omega), List.map_append]
    rfl

theorem rs_back {st : St} (h : Known st) (l : List RI) (part : Nat) (hl : partOk l part) {C : ByteArray} (hz : ((l.map RI.nat).foldl stepR st).1.size ≤ 65535) (hC : Pre ((l.map RI.nat).foldl stepR st).1 C) :
    ∀ i, i ≤ l.length → rcTo C part st.1.size i = .ok ((l.take i).map RI.nat, (((l.take i).map RI.nat).foldl stepR st).1.size) := by
  intro i
  induction i with
  | zero => intro _; rfl
  | succ i ih =>
    intro hi
    have hm := part_mem hl
    have e := fold_at stepR RI.nat l st i (by omega)
    have er := fold_rest stepR RI.nat l st (i + 1)
    have hk := foldR_known h (l.take i) (fun x hx => hm x (List.mem_of_mem_take hx))
    have hP : Pre (((l.take (i + 1)).map RI.nat).foldl stepR st).1 C := by
      rw [er] at hC
      exact (grow_foldR _ _).trans hC
    have hP0 : Pre (((l.take i).map RI.nat).foldl stepR st).1 ((l.map RI.nat).foldl stepR st).1 := by
      rw [fold_rest stepR RI.nat l st i]
      exact grow_foldR _ _
    have hs : stepR (((l.take i).map RI.nat).foldl stepR st) l[i].nat = wrec (((l.take i).map RI.nat).foldl stepR st) l[i].nat := by
      exact stepR_ok _ _ (by have := hP0.1; omega)
    rw [e, hs] at hP ⊢
    rw [rcTo, ih (by omega)]
    simp only
    rw [rec_back hk (hm _ (List.getElem_mem _)) hP, List.take_succ_eq_append_getElem (by omega), List.map_append]
    simp only
    obtain ⟨_, g2⟩ := hl.2 i (by omega)
    have hx := hm l[i] (List.getElem_mem _)
    have hmis : misB ((l.take i).map RI.nat) l[i].nat part = false := by
      cases hb : misB ((l.take i).map RI.nat) l[i].nat part with
      | false => rfl
      | true =>
        exfalso
        apply g2
        simp only [misB, Bool.and_eq_true, beq_iff_eq, Bool.or_eq_true, List.any_eq_true, bne_iff_ne, ne_eq, decide_eq_true_eq, List.mem_map] at hb
        obtain ⟨b1, b2⟩ := hb
        have t0 := hx.2.1.1
        have b1' : l[i].ty.toNat = 41 := b1
        refine ⟨by omega, ?_⟩
        rcases b2 with (⟨y, ⟨z, hz1, rfl⟩, hy⟩ | b2) | b2
        · have z0 := (hm z (List.mem_of_mem_take hz1)).2.1.1
          have hy' : z.ty.toNat = 41 := hy
          exact .inl ⟨z, hz1, by omega⟩
        · exact .inr (.inl b2)
        · exact .inr (.inr b2)
    rw [hmis]
    rfl

/-- P9: what is written is read back. -/
theorem parse_writ (m : MI) (hm : msgOk m) (hz : (writ m.nat).1.size ≤ 65535) : parseP (writ m.nat).1 = .ok m.nat := by
  obtain ⟨m1, m2, mq, ma, mu, mx⟩ := hm
  obtain ⟨id, fl, q, a, u, x⟩ := m
  simp only at m1 m2 mq ma mu mx
  obtain ⟨T, hT⟩ : ∃ T, wtop (MI.nat ⟨id, fl, q, a, u, x⟩) = T := ⟨_, rfl⟩
  have hkT : Known T := by rw [← hT]; exact Inv.nil _ _
  have hT0 : T.1 = wd id.toNat ++ wd fl.toNat ++ wd q.length ++ wd a.length ++ wd u.length ++ wd x.length := by
    rw [← hT]
    show wd id.toNat ++ wd fl.toNat ++ wd (q.map QI.nat).length ++ wd (a.map RI.nat).length ++ wd (u.map RI.nat).length ++ wd (x.map RI.nat).length = _
    simp only [List.length_map]
  have hTs : T.1.size = 12 := by rw [hT0]; simp only [ByteArray.size_append, wd_size]
  obtain ⟨S1, hS1⟩ : ∃ S1, (q.map QI.nat).foldl stepQ T = S1 := ⟨_, rfl⟩
  obtain ⟨S2, hS2⟩ : ∃ S2, (a.map RI.nat).foldl stepR S1 = S2 := ⟨_, rfl⟩
  obtain ⟨S3, hS3⟩ : ∃ S3, (u.map RI.nat).foldl stepR S2 = S3 := ⟨_, rfl⟩
  obtain ⟨S4, hS4⟩ : ∃ S4, (x.map RI.nat).foldl stepR S3 = S4 := ⟨_, rfl⟩
  have hw : writ (MI.nat ⟨id, fl, q, a, u, x⟩) = S4 := by
    rw [← hS4, ← hS3, ← hS2, ← hS1, ← hT]; rfl
  rw [hw] at hz ⊢
  have k1 : Known S1 := by rw [← hS1]; exact foldQ_known hkT q (ques_mem mq)
  have k2 : Known S2 := by rw [← hS2]; exact foldR_known k1 a (part_mem ma)
  have k3 : Known S3 := by rw [← hS3]; exact foldR_known k2 u (part_mem mu)
  have p4 : Pre S3.1 S4.1 := by rw [← hS4]; exact grow_foldR _ _
  have p3 : Pre S2.1 S4.1 := by refine Pre.trans ?_ p4; rw [← hS3]; exact grow_foldR _ _
  have p2 : Pre S1.1 S4.1 := by refine Pre.trans ?_ p3; rw [← hS2]; exact grow_foldR _ _
  have p1 : Pre T.1 S4.1 := by refine Pre.trans ?_ p2; rw [← hS1]; exact grow_foldQ _ _
  have s1 := p4.1
  have s2 := p3.1
  have s3 := p2.1
  have s4 := p1.1
  have r1 := qs_back hkT q (ques_mem mq) (C := S4.1) (by rw [hS1]; omega) (by rw [hS1]; exact p2) q.length (Nat.le_refl _)
  have r2 := rs_back k1 a 0 ma (C := S4.1) (by rw [hS2]; omega) (by rw [hS2]; exact p3) a.length (Nat.le_refl _)
  have r3 := rs_back k2 u 1 mu (C := S4.1) (by rw [hS3]; omega) (by rw [hS3]; exact p4) u.length (Nat.le_refl _)
  have r4 := rs_back k3 x 2 mx (C := S4.1) (by rw [hS4]; omega) (by rw [hS4]; exact Pre.refl _) x.length (Nat.le_refl _)
  rw [List.take_length, hS1, hTs] at r1
  rw [List.take_length, hS2] at r2
  rw [List.take_length, hS3] at r3
  rw [List.take_length, hS4] at r4
  rw [hT0] at p1
  have l1 := mq.1
  have l2 := ma.1
  have l3 := mu.1
  have l4 := mx.1
  unfold wordOk at m1 m2
  have c6 := p1.word (by omega)
  have c5 := p1.left.word (by omega)
  have c4 := p1.left.left.word (by omega)
  have c3 := p1.left.left.left.word (by omega)
  have c2 := p1.left.left.left.left.word (by omega)
  have c1 := (show Pre ((⟨#[]⟩ : ByteArray) ++ wd id.toNat) S4.1 by rw [empty_append]; exact p1.left.left.left.left.left).word (by omega)
  simp only [ByteArray.size_append, wd_size] at c2 c3 c4 c5 c6
  have c1' : num S4.1 0 2 = id.toNat := c1
  unfold parseP
  rw [if_neg (by omega), if_neg (by omega), c3, r1]
  simp only
  rw [c4, r2]
  simp only
  rw [c5, r3]
  simp only
  rw [c6, r4]
  simp only
  rw [if_neg (by omega), c1', c2]
  rfl

/-- How many bytes records take with all names whole. -/
def whlR (l : List RI) : Nat := l.foldl (fun n x => n + x.name.size + 10 + x.data.size) 0
def whlQ (l : List QI) : Nat := l.foldl (fun n x => n + x.name.size + 4) 12
def whl (m : MI) : Nat := whlQ m.q + whlR m.a + whlR m.u + whlR m.x

theorem foldR_add (l : List RI) : ∀ k, l.foldl (fun n x => n + x.name.size + 10 + x.data.size) k = k + whlR l := by
  unfold whlR
  induction l with
  | nil => intro k; rfl
  | cons x l ih =>
    intro k
    rw [List.foldl_cons, List.foldl_cons, ih, ih (0 + x.name.size + 10 + x.data.size)]
    omega

theorem foldQ_le (l : List QI) : ∀ k j, k ≤ j → l.foldl (fun n (x : QI) => n + x.name.size + 4) k ≤ l.foldl (fun n x => n + x.name.size + 4) j := by
  induction l with
  | nil => intro k j h; exact h
  | cons x l ih => intro k j h; exact ih _ _ (by simp only; omega)

theorem stepQ_le (st : St) {q : QI} (hq : queOk q) : (stepQ st q.nat).1.size ≤ st.1.size + q.name.size + 4 := by
  unfold stepQ
  split
  · omega
  · show (wput (wput (wname st q.nat.name) (wd q.nat.ty)) (wd q.nat.cl)).1.size ≤ _
    have := short_le st.2 q.nat.name st.1.size hq.1
    rw [wput_size, wput_size, wd_size, wd_size, wname_size]
    show _ ≤ st.1.size + q.nat.name.size + 4
    omega

theorem stepR_le (st : St) {x : RI} (hx : recOk x) : (stepR st x.nat).1.size ≤ st.1.size + x.name.size + 10 + x.data.size := by
  unfold stepR
  split
  · omega
  · obtain ⟨_, n2, n3, n4, n5, n6, n7⟩ := recOk_nat hx
    have h1 := short_le st.2 x.nat.name st.1.size n6
    have h2 := sdata_le (whead st x.nat).2 x.nat.data x.nat.ty ((whead st x.nat).1.size + 2) n7
    show ((whead st x.nat).1 ++ wd (sdata (whead st x.nat).2 x.nat.data x.nat.ty ((whead st x.nat).1.size + 2)).1.size ++ (sdata (whead st x.nat).2 x.nat.data x.nat.ty ((whead st x.nat).1.size + 2)).1).size ≤ _
    generalize (sdata (whead st x.nat).2 x.nat.data x.nat.ty ((whead st x.nat).1.size + 2)).1 = S at *
    have eh : (whead st x.nat).1.size = st.1.size + (short st.2 x.nat.name st.1.size).1.size + 8 := by
      show (wput (wput (wput (wput (wname st x.nat.name) (wd x.nat.ty)) (wd x.nat.cl)) (wd (x.nat.ttl / 65536))) (wd (x.nat.ttl % 65536))).1.size = _
      simp only [wput_size, wd_size, wname_size]
    rw [ByteArray.size_append, ByteArray.size_append, wd_size, eh]
    show _ ≤ st.1.size + x.nat.name.size + 10 + x.nat.data.size
    omega

theorem foldR_le (l : List RI) : ∀ (st : St), (∀ x, x ∈ l → recOk x) → ((l.map RI.nat).foldl stepR st).1.size ≤ st.1.size + whlR l := by
  induction l with
  | nil => intro st _; exact Nat.le_refl _
  | cons x l ih =>
    intro st h
    have h1 := ih (stepR st x.nat) (fun y hy => h y (List.mem_cons_of_mem _ hy))
    have h2 := stepR_le st (h x (by simp))
    have h3 := foldR_add l (0 + x.name.size + 10 + x.data.size)
    have h4 : whlR (x :: l) = l.foldl (fun n x => n + x.name.size + 10 + x.data.size) (0 + x.name.size + 10 + x.data.size) := rfl
    show ((l.map RI.nat).foldl stepR (stepR st x.nat)).1.size ≤ _
    omega

theorem foldQ_size (l : List QI) : ∀ (st : St) (k : Nat), st.1.size ≤ k → (∀ x, x ∈ l → queOk x) → ((l.map QI.nat).foldl stepQ st).1.size ≤ l.foldl (fun n x => n + x.name.size + 4) k := by
  induction l with
  | nil => intro st k h _; exact h
  | cons x l ih =>
    intro st k hk h
    have h2 := stepQ_le st (h x (by simp))
    exact ih (stepQ st x.nat) (k + x.name.size + 4) (by omega) (fun y hy => h y (List.mem_cons_of_mem _ hy))

theorem writ_le (m : MI) (hm : msgOk m) : (writ m.nat).1.size ≤ whl m := by
  obtain ⟨m1, m2, mq, ma, mu, mx⟩ := hm
  have h1 := foldQ_size m.q (wtop m.nat) 12 (by show (wd _ ++ wd _ ++ wd _ ++ wd _ ++ wd _ ++ wd _).size ≤ 12; simp only [ByteArray.size_append, wd_size]; omega) (ques_mem mq)
  have h2 := foldR_le m.a ((m.q.map QI.nat).foldl stepQ (wtop m.nat)) (part_mem ma)
  have h3 := foldR_le m.u ((m.a.map RI.nat).foldl stepR ((m.q.map QI.nat).foldl stepQ (wtop m.nat))) (part_mem mu)
  have h4 := foldR_le m.x ((m.u.map RI.nat).foldl stepR ((m.a.map RI.nat).foldl stepR ((m.q.map QI.nat).foldl stepQ (wtop m.nat)))) (part_mem mx)
  show ((m.x.map RI.nat).foldl stepR ((m.u.map RI.nat).foldl stepR ((m.a.map RI.nat).foldl stepR ((m.q.map QI.nat).foldl stepQ (wtop m.nat))))).1.size ≤ whlQ m.q + whlR m.a + whlR m.u + whlR m.x
  unfold whlQ
  omega

end Go.Proofs.Ytdhobdmhnocbgaa
