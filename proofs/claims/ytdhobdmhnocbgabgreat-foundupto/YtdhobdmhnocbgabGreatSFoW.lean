/-
  Plain: the zone's records: which there are, that they are well made, how many.
-/
/-
  Plain: of few news all sets of an answer fit over a stream; what a limit leaves of them, and what the flags say of it.
-/
/-
  Plain: letters that are turned; small letters.
-/
/-
  Plain: what an answer holds first; a node that is up is found.
-/
/-
  Walks over zonekeep: small letters; a name below another; letters turned.
-/
/-
  Plain: news in another order, or told twice, make the same zone and the same answers.
-/
/-
  Walks over zonekeep: Nowhere.
-/
/-
  Walks over zonekeep: Found.
-/
import Derived.Test.YtdhobdmhnocbgabGreatSFiP
import Derived.Test.YtdhobdmhnocbgabGreatSNwH
import Derived.Test.YtdhobdmhnocbgabGreatSQuB
import Derived.Test.YtdhobdmhnocbgabGreatSAnF
import Derived.Test.YtdhobdmhnocbgabGreatSQuD
namespace Go.Proofs.YtdhobdmhnocbgabGreat
open Go.RowKit Zr

theorem aliM_ok {up : List Ev} : ∀ {n : Nat} {e : Ev}, e ∈ aliM up (sortP (aliEs up)) n → e ∈ up ∧ e.alias ≠ ⟨#[]⟩ ∧ ¬ isUp up e.alias
  | 0, e, h => by simp [aliM] at h
  | n + 1, e, h => by
    unfold aliM at h
    split at h
    · next hn =>
      split at h
      · exact aliM_ok h
      · next hc =>
        rcases List.mem_append.1 h with h | h
        · exact aliM_ok h
        · rw [List.mem_singleton] at h
          have hn2 : ¬ isUp up (sortP (aliEs up))[n].key := fun q => hc (.inr q)
          obtain ⟨y, hy, he⟩ := List.mem_map.1 (sort_mem.1 (List.getElem_mem hn))
          rw [← he] at hn2 h
          simp only at hn2 h
          subst h
          obtain ⟨h1, h2⟩ := List.mem_filter.1 hy
          exact ⟨h1, of_decide_eq_true h2, hn2⟩
    · exact aliM_ok h

/-- The names that are told by an alias. -/
noncomputable def aliL (l : List Ev) : List Ev := aliM (upM l) (sortP (aliEs (upM l))) (sortP (aliEs (upM l))).length

/-- What a record of the zone is. -/
def inZ (l : List Ev) (x : RI) : Prop :=
  ((∃ k : Nat, x = madeR originB 6 (soaB k)) ∨ x = madeR originB 2 serverB) ∨
  (∃ u, u ∈ upM l ∧ (x = madeR (underP u.node) (kindOf u) u.addr ∨ (u.text ≠ ⟨#[]⟩ ∧ x = madeR (underP u.node) 16 (one u.text.size ++ u.text)))) ∨
  (∃ u, u ∈ upM l ∧ u.alias ≠ ⟨#[]⟩ ∧ ¬ isUp (upM l) u.alias ∧ x = cnR u) ∨
  ∃ u, u ∈ upM l ∧ x = srvR u

theorem nodeR_is {u : Ev} {x : RI} (h : x ∈ nodeR u) : x = madeR (underP u.node) (kindOf u) u.addr ∨ (u.text ≠ ⟨#[]⟩ ∧ x = madeR (underP u.node) 16 (one u.text.size ++ u.text)) := by
  unfold nodeR at h
  rcases List.mem_cons.1 h with h | h
  · exact .inl h
  · split at h
    · simp at h
    · next ht =>
      rw [List.mem_singleton] at h
      exact .inr ⟨ht, h⟩

theorem zone_mem {l : List Ev} {x : RI} (h : x ∈ recordsM l) : inZ l x := by
  unfold recordsM at h
  rcases List.mem_append.1 h with h | h
  · rcases List.mem_append.1 h with h | h
    · rcases List.mem_append.1 h with h | h
      · simp only [List.mem_cons, List.mem_nil_iff, or_false] at h
        rcases h with h | h
        · exact .inl (.inl ⟨_, h⟩)
        · exact .inl (.inr h)
      · obtain ⟨u, hu, hx⟩ := List.mem_flatMap.1 h
        exact .inr (.inl ⟨u, hu, nodeR_is hx⟩)
    · obtain ⟨u, hu, rfl⟩ := List.mem_map.1 h
      obtain ⟨h1, h2, h3⟩ := aliM_ok hu
      exact .inr (.inr (.inl ⟨u, h1, h2, h3, rfl⟩))
  · obtain ⟨u, hu, rfl⟩ := List.mem_map.1 h
    exact .inr (.inr (.inr ⟨u, hu, rfl⟩))

theorem up_good {l : List Ev} {u : Ev} (h : u ∈ upM l) : labelOk u.node ∧ aliveOk u := by
  obtain ⟨hg, hk⟩ := up_mem h
  obtain ⟨h1, _, _, h4⟩ := hg
  rcases h4 with h4 | ⟨_, h5⟩
  · rw [hk] at h4; exact absurd h4 (by decide)
  · exact ⟨h1, h5⟩

theorem rec_made {n d : ByteArray} (t : Nat) (hn : wholeB n = true) (ht : t ≤ 65535) (hd : wellD t d) : recOk (madeR n (t : Int) d) :=
  ⟨hn, ⟨by show (0 : Int) ≤ (t : Int); omega, by show (t : Int) ≤ 65535; omega⟩, ⟨by show (0 : Int) ≤ 1; decide, by show (1 : Int) ≤ 65535; decide⟩, ⟨by show (0 : Int) ≤ 30; decide, by show (30 : Int) ≤ 4294967295; decide⟩, by show wellD (t : Int).toNat d; rw [Int.toNat_natCast]; exact hd⟩

theorem server_whole : wholeB serverB = true := by kernel_rfl
theorem admin_whole : wholeB adminB = true := by kernel_rfl

theorem soa_well (k : Nat) : wellD 6 (soaB k) := by
  refine (wellD_two _).2 ⟨serverB, adminB, q4 k ++ (q4 3600 ++ (q4 600 ++ (q4 86400 ++ q4 30))), ?_, server_whole, admin_whole, ?_⟩
  · unfold soaB
    simp only [append_assoc']
  · simp only [ByteArray.size_append, q4_size]
theorem text_well (s : ByteArray) (h : s.size ≤ 60) : wellD 16 (one s.size ++ s) := by
  have hz : (one s.size ++ s).size = 1 + s.size := by rw [ByteArray.size_append]; rfl
  refine (wellD_flat _ 16 (by omega) (by omega)).2 ⟨by omega, ?_⟩
  have h1 := rowB_push ⟨#[]⟩ s s.size (by omega) rfl (by decide)
  rw [empty_append] at h1
  show ((one s.size ++ s).size != 0 && rowB (one s.size ++ s) 0 1) = true
  have h2 : rowB (one s.size ++ s) 0 1 = true := h1
  rw [h2, Bool.and_true, bne_iff_ne]
  omega
theorem srv_well (p : Nat) (s : ByteArray) (h1 : 1 ≤ s.size) (h2 : s.size ≤ 15) : wellD 33 (q4 0 ++ wd p ++ underP s) := by
  have hs1 : (q4 0 ++ wd p).size = 6 := by rw [ByteArray.size_append, q4_size, wd_size]
  have hu := under_whole h1 h2
  have hz : (q4 0 ++ wd p ++ underP s).size = 6 + (underP s).size := by rw [ByteArray.size_append, hs1]
  refine (wellD_flat _ 33 (by omega) (by omega)).2 ⟨by omega, ?_⟩
  show svcB _ = true
  rw [svc_whole _ (by omega)]
  have hx := extract_back (q4 0 ++ wd p) (underP s)
  rw [hs1] at hx
  rw [hx]
  exact hu.1

/-- A record of the zone is well made, no OPT, and short. -/
theorem zone_ok {l : List Ev} {x : RI} (h : x ∈ recordsM l) : recOk x ∧ x.ty ≠ 41 ∧ x.name.size + 10 + x.data.size ≤ 97 := by
  rcases zone_mem h with (⟨k, rfl⟩ | rfl) | ⟨u, hu, rfl | ⟨ht, rfl⟩⟩ | ⟨u, hu, ha, _, rfl⟩ | ⟨u, hu, rfl⟩
  · refine ⟨rec_made 6 origin_whole (by omega) (soa_well k), by show (6 : Int) ≠ 41; decide, ?_⟩
    show 10 + 10 + (soaB k).size ≤ 97
    unfold soaB
    simp only [ByteArray.size_append, q4_size]
    show 10 + 10 + (13 + 16 + 4 + 4 + 4 + 4 + 4) ≤ 97
    omega
  · exact ⟨rec_made 2 origin_whole (by omega) ((wellD_one _ 2 (by omega)).2 server_whole), by show (2 : Int) ≠ 41; decide, by show 10 + 10 + 13 ≤ 97; omega⟩
  · obtain ⟨hn, ha⟩ := up_good hu
    obtain ⟨u1, u2⟩ := under_whole hn.2.1 hn.2.2
    have us := under_size u.node
    have hn2 := hn.2.2
    rcases ha.2.1 with h4 | h4
    · have hk : kindOf u = ((1 : Nat) : Int) := by unfold kindOf; rw [if_neg (by omega)]; rfl
      rw [hk]
      refine ⟨rec_made 1 u1 (by omega) ((wellD_flat _ 1 (by omega) (by omega)).2 ⟨by omega, by show (u.addr.size == 4) = true; rw [h4]; rfl⟩), by show (1 : Int) ≠ 41; decide, ?_⟩
      show (underP u.node).size + 10 + u.addr.size ≤ 97
      omega
    · have hk : kindOf u = ((28 : Nat) : Int) := by unfold kindOf; rw [if_pos h4]; rfl
      rw [hk]
      refine ⟨rec_made 28 u1 (by omega) ((wellD_flat _ 28 (by omega) (by omega)).2 ⟨by omega, by show (u.addr.size == 16) = true; rw [h4]; rfl⟩), by show (28 : Int) ≠ 41; decide, ?_⟩
      show (underP u.node).size + 10 + u.addr.size ≤ 97
      omega
  · obtain ⟨hn, ha⟩ := up_good hu
    obtain ⟨u1, u2⟩ := under_whole hn.2.1 hn.2.2
    have us := under_size u.node
    have hn2 := hn.2.2
    have ht2 := ha.2.2.2.2
    refine ⟨rec_made 16 u1 (by omega) (text_well _ ht2), by show (16 : Int) ≠ 41; decide, ?_⟩
    show (underP u.node).size + 10 + (one u.text.size ++ u.text).size ≤ 97
    rw [ByteArray.size_append]
    show (underP u.node).size + 10 + (1 + u.text.size) ≤ 97
    omega
  · obtain ⟨hn, hal⟩ := up_good hu
    obtain ⟨u1, u2⟩ := under_whole hn.2.1 hn.2.2
    have hl : labelOk u.alias := by
      rcases hal.1 with q | q
      · exact absurd q ha
      · exact q
    obtain ⟨v1, v2⟩ := under_whole hl.2.1 hl.2.2
    have us := under_size u.node
    have vs := under_size u.alias
    have hn2 := hn.2.2
    have hl2 := hl.2.2
    refine ⟨rec_made 5 v1 (by omega) ((wellD_one _ 5 (by omega)).2 u1), by show (5 : Int) ≠ 41; decide, ?_⟩
    show (underP u.alias).size + 10 + (underP u.node).size ≤ 97
    omega
  · obtain ⟨hn, ha⟩ := up_good hu
    have us := under_size u.node
    have hn2 := hn.2.2
    refine ⟨rec_made 33 service_whole (by omega) (srv_well _ _ hn.2.1 hn.2.2), by show (33 : Int) ≠ 41; decide, ?_⟩
    show 21 + 10 + (q4 0 ++ wd u.port.toNat ++ underP u.node).size ≤ 97
    rw [ByteArray.size_append, ByteArray.size_append, q4_size, wd_size]
    omega

end Go.Proofs.YtdhobdmhnocbgabGreat

namespace Go.Proofs.YtdhobdmhnocbgabGreat
open Go.RowKit Zr

/-- Each set has all records of a name and its type. -/
def KindZ (z : List RI) (L : List ST) : Prop := ∀ s, s ∈ L → ∃ n, s.l = ofP z n s.kind ∧ s.l ≠ []
theorem KindZ.want {z : List RI} {L : List ST} (h : KindZ z L) (p : Nat) (n : ByteArray) (t : Int) : KindZ z (wantP z L p n t) := by
  intro s hs
  unfold wantP at hs
  split at hs
  · exact h s hs
  · next hne =>
    rcases List.mem_append.1 hs with q | q
    · exact h s q
    · rw [List.mem_singleton] at q
      subst q
      exact ⟨n, rfl, hne⟩
theorem KindZ.nil (z : List RI) : KindZ z [] := fun s hs => by cases hs
theorem wantTo_end (z : List RI) (n : ByteArray) (L : List ST) (j : Nat) (k : z.length ≤ j) : wantTo z n L (j + 1) = wantTo z n L j := by
  show (match z[j]? with | none => _ | some x => _ : List ST) = _
  rw [List.getElem?_eq_none k]
/-- All sets of a name. -/
def NameZ (z : List RI) (n : ByteArray) (L : List ST) : Prop := ∀ s, s ∈ L → s.l = ofP z n s.kind ∧ s.l ≠ [] ∧ s.part = 0
theorem NameZ.want {z : List RI} {n : ByteArray} {L : List ST} (h : NameZ z n L) (t : Int) : NameZ z n (wantP z L 0 n t) := by
  intro s hs
  unfold wantP at hs
  split at hs
  · exact h s hs
  · next hne =>
    rcases List.mem_append.1 hs with q | q
    · exact h s q
    · rw [List.mem_singleton] at q
      subst q
      exact ⟨rfl, hne, rfl⟩
theorem NameZ.all (z : List RI) (n : ByteArray) : ∀ j, NameZ z n (wantTo z n [] j)
  | 0 => fun s hs => by simp [wantTo] at hs
  | j + 1 => by
    have ih := NameZ.all z n j
    rcases Nat.lt_or_ge j z.length with k | k
    · rw [wantTo_step z n [] j k]
      split
      · exact ih.want _
      · exact ih
    · rw [wantTo_end z n [] j k]
      exact ih
theorem NameZ.kind {z : List RI} {n : ByteArray} {L : List ST} (h : NameZ z n L) : KindZ z L := fun s hs => ⟨n, (h s hs).1, (h s hs).2.1⟩
theorem KindZ.answ (z : List RI) (n : ByteArray) (t : Int) : KindZ z (answP z [] n t) := by
  unfold answP
  split
  · exact (NameZ.all z n _).kind
  · split
    · exact (KindZ.nil z).want _ _ _
    · exact ((KindZ.nil z).want _ _ _).want _ _ _
theorem KindZ.main (z : List RI) (n : ByteArray) (t : Int) : KindZ z (mainP z n t) := by
  unfold mainP soaP
  split
  · exact KindZ.answ z n t
  · exact (KindZ.answ z n t).want _ _ _

theorem services_none {L : List ST} (h : ∀ s, s ∈ L → s.kind ≠ 33) : servicesP L = [] := by
  unfold servicesP
  split
  · rfl
  · next s hs =>
    have h2 := List.find?_some hs
    have h2' : s.kind = 33 := by simpa using h2
    exact absurd h2' (h s (List.mem_of_find?_eq_some hs))
theorem whlR_cat (A B : List RI) : whlR (A ++ B) = whlR A + whlR B := by
  unfold whlR
  rw [List.foldl_append]
  exact foldR_add B _
theorem whlR_97 : ∀ L : List RI, (∀ x, x ∈ L → x.name.size + 10 + x.data.size ≤ 97) → whlR L ≤ 97 * L.length
  | [], _ => by show (0 : Nat) ≤ _; omega
  | x :: L, h => by
    have h1 := h x (by simp)
    have h2 := whlR_97 L fun y hy => h y (by simp [hy])
    have e : whlR (x :: L) = whlR [x] + whlR L := whlR_cat [x] L
    have e2 : whlR [x] = 0 + x.name.size + 10 + x.data.size := rfl
    rw [List.length_cons]
    omega

theorem part_plain {L : List RI} (p : Nat) (hl : L.length ≤ 65535) (h : ∀ x, x ∈ L → recOk x ∧ x.ty ≠ 41) : partOk L p :=
  ⟨hl, fun _ hi => ⟨(h _ (List.getElem_mem hi)).1, fun q => (h _ (List.getElem_mem hi)).2 q.1⟩⟩
theorem part_cat {A B : List RI} (h : ∀ x, x ∈ A → recOk x ∧ x.ty ≠ 41) (hB : partOk B 2) (hl : A.length + B.length ≤ 65535) : partOk (A ++ B) 2 := by
  refine ⟨by rw [List.length_append]; exact hl, fun i hi => ?_⟩
  rcases Nat.lt_or_ge i A.length with k | k
  · rw [List.getElem_append_left k]
    exact ⟨(h _ (List.getElem_mem k)).1, fun q => (h _ (List.getElem_mem k)).2 q.1⟩
  · rw [List.length_append] at hi
    have hi2 : i - A.length < B.length := by omega
    rw [List.getElem_append_right k]
    obtain ⟨b1, b2⟩ := hB.2 (i - A.length) hi2
    refine ⟨b1, fun q => b2 ⟨q.1, ?_⟩⟩
    rcases q.2 with ⟨y, hy, hy2⟩ | q2
    · rw [List.take_append] at hy
      rcases List.mem_append.1 hy with r | r
      · exact absurd hy2 (h y (List.mem_of_mem_take r)).2
      · exact .inl ⟨y, r, hy2⟩
    · exact .inr q2
theorem partP_mem {L : List ST} {p : Nat} {x : RI} (h : x ∈ partP L p) : ∃ s, s ∈ L ∧ s.part = p ∧ x ∈ s.l := by
  obtain ⟨s, hs, hx⟩ := List.mem_flatMap.1 h
  obtain ⟨h1, h2⟩ := List.mem_filter.1 hs
  exact ⟨s, h1, of_decide_eq_true h2, hx⟩
theorem ques_len {q : List QI} (h : quesOk q) (h6 : q.length ≤ 1) : whlQ q ≤ 300 := by
  match hx : q with
  | [] => show 12 ≤ 300; omega
  | [q] =>
    have := h.2 0 (by simp)
    have hs : q.name.size ≤ 255 := (whole_pos this.1).2
    show 12 + q.name.size + 4 ≤ 300
    omega
  | a :: b :: l => simp at h6

/-- All sets fit, if they are well made, and few. -/
theorem rep_fit (x : Rep) (hr : RepOk x) (hp : Parted x.sets) (h2 : ∀ s, s ∈ x.sets → s.part ≤ 2) (hz : ∀ s, s ∈ x.sets → ∀ y, y ∈ s.l → recOk y ∧ y.ty ≠ 41 ∧ y.name.size + 10 + y.data.size ≤ 97) (hlim : 311 + 97 * tot x.sets ≤ x.lim) (hl2 : x.lim ≤ 65535) : Fit x x.sets.length := by
  obtain ⟨r1, r2, r3, r4, r5, r6⟩ := hr
  have hfl := rep_flags x x.sets.length ⟨r1, r2, r3, r4, r5, r6⟩
  have hflat := parts_flat x.sets hp h2
  have hlen : (partP x.sets 0).length + (partP x.sets 1).length + (partP x.sets 2).length = tot x.sets := by
    unfold tot
    rw [← hflat, List.length_append, List.length_append]
  have hm : ∀ p y, y ∈ partP x.sets p → recOk y ∧ y.ty ≠ 41 := fun p y hy => by
    obtain ⟨s, hs, _, hy⟩ := partP_mem hy
    exact ⟨(hz s hs y hy).1, (hz s hs y hy).2.1⟩
  have hs97 : ∀ p y, y ∈ partP x.sets p → y.name.size + 10 + y.data.size ≤ 97 := fun p y hy => by
    obtain ⟨s, hs, _, hy⟩ := partP_mem hy
    exact (hz s hs y hy).2.2
  have ho : (optsP x).length ≤ 1 := by unfold optsP; split <;> simp
  have e : repMsg x x.sets.length = ⟨x.id, (flagTo x.sets x.sets.length (x.fl ||| x.told % 16) x.sets.length : Nat), x.q, partP x.sets 0, partP x.sets 1, partP x.sets 2 ++ optsP x⟩ := by
    unfold repMsg
    rw [List.take_length]
  have hok : msgOk (repMsg x x.sets.length) := by
    rw [e]
    refine ⟨⟨by show (0 : Int) ≤ (x.id : Int); omega, by show (x.id : Int) ≤ 65535; omega⟩, ⟨by show (0 : Int) ≤ ((flagTo x.sets x.sets.length (x.fl ||| x.told % 16) x.sets.length : Nat) : Int); omega, by show ((flagTo x.sets x.sets.length (x.fl ||| x.told % 16) x.sets.length : Nat) : Int) ≤ 65535; omega⟩, r5, part_plain 0 (by show (partP x.sets 0).length ≤ 65535; omega) (hm 0), part_plain 1 (by show (partP x.sets 1).length ≤ 65535; omega) (hm 1), part_cat (hm 2) (opts_ok x r4) (by omega)⟩
  have hw := writ_le _ hok
  have hwl : whl (repMsg x x.sets.length) ≤ 311 + 97 * tot x.sets := by
    rw [e]
    show whlQ x.q + whlR (partP x.sets 0) + whlR (partP x.sets 1) + whlR (partP x.sets 2 ++ optsP x) ≤ _
    rw [whlR_cat]
    have k0 := whlR_97 _ (hs97 0)
    have k1 := whlR_97 _ (hs97 1)
    have k2 := whlR_97 _ (hs97 2)
    have k3 := opts_len x
    have k4 := ques_len r5 r6
    have k5 : 97 * ((partP x.sets 0).length + (partP x.sets 1).length + (partP x.sets 2).length) = 97 * tot x.sets := by rw [hlen]
    omega
  exact ⟨hok, by omega, by omega⟩

theorem fitting_all (x : Rep) (hr : RepOk x) (hp : Parted x.sets) (h2 : ∀ s, s ∈ x.sets → s.part ≤ 2) (hf : Fit x x.sets.length) {c : Nat} (h : Fitting x c) : c = x.sets.length :=
  fitting_one x hr.2.2.1 hr.2.2.2.1 hp h2 h ⟨Nat.le_refl _, .inr hf, .inl rfl⟩

/-- Something but extra records is left out. -/
def CutAt (S : List ST) (c : Nat) : Prop := ∃ i, c ≤ i ∧ ∃ h : i < S.length, S[i].part ≠ 2
theorem flag_to (S : List ST) (c f : Nat) : ∀ j, j ≤ S.length → ((∃ i, c ≤ i ∧ i < j ∧ ∃ h : i < S.length, S[i].part ≠ 2) → flagTo S c f j = f ||| 512) ∧ ((¬ ∃ i, c ≤ i ∧ i < j ∧ ∃ h : i < S.length, S[i].part ≠ 2) → flagTo S c f j = f)
  | 0, _ => ⟨fun ⟨i, _, h, _⟩ => by omega, fun _ => rfl⟩
  | j + 1, hj => by
    obtain ⟨h1, h2⟩ := flag_to S c f j (by omega)
    rw [cut_step S c f j (by omega)]
    by_cases q : c ≤ j ∧ S[j].part ≠ 2
    · rw [if_pos q]
      refine ⟨fun _ => ?_, fun h => absurd ⟨j, q.1, by omega, by omega, q.2⟩ h⟩
      by_cases r : ∃ i, c ≤ i ∧ i < j ∧ ∃ h : i < S.length, S[i].part ≠ 2
      · rw [h1 r, Nat.or_assoc]
        rfl
      · rw [h2 r]
    · rw [if_neg q]
      have hh : (∃ i, c ≤ i ∧ i < j + 1 ∧ ∃ h : i < S.length, S[i].part ≠ 2) → ∃ i, c ≤ i ∧ i < j ∧ ∃ h : i < S.length, S[i].part ≠ 2 := fun ⟨i, a, b, h, d⟩ => by
        rcases Nat.lt_or_ge i j with k | k
        · exact ⟨i, a, k, h, d⟩
        · have : i = j := by omega
          subst this
          exact absurd ⟨a, d⟩ q
      exact ⟨fun h => h1 (hh h), fun h => h2 fun ⟨i, a, b, r⟩ => h ⟨i, a, by omega, r⟩⟩
theorem flag_cut (S : List ST) (c f : Nat) : (CutAt S c → flagTo S c f S.length = f ||| 512) ∧ (¬ CutAt S c → flagTo S c f S.length = f) := by
  obtain ⟨h1, h2⟩ := flag_to S c f S.length (Nat.le_refl _)
  exact ⟨fun ⟨i, a, h, d⟩ => h1 ⟨i, a, h, h, d⟩, fun h => h2 fun ⟨i, a, _, r⟩ => h ⟨i, a, r⟩⟩
theorem cut_none (S : List ST) : ¬ CutAt S S.length := fun ⟨i, a, h, _⟩ => by omega

end Go.Proofs.YtdhobdmhnocbgabGreat

namespace Go.Proofs.YtdhobdmhnocbgabGreat
open Go.RowKit Zr

def Turned (c d : Nat) : Prop := d = c ∨ (97 ≤ c ∧ c ≤ 122 ∧ d + 32 = c) ∨ (65 ≤ c ∧ c ≤ 90 ∧ d = c + 32)
/-- The same but for letters that are small or great. -/
def Flips (s t : ByteArray) : Prop := t.size = s.size ∧ ∀ i, i < s.size → Turned (bt s i) (bt t i)

theorem turned_low {c d : Nat} (h : Turned c d) : lowC d = lowC c := by
  unfold lowC
  rcases h with rfl | ⟨h1, h2, h3⟩ | ⟨h1, h2, rfl⟩
  · rfl
  · rw [if_pos (by omega), if_neg (by omega)]; omega
  · rw [if_neg (by omega), if_pos (by omega)]
theorem turned_few {c d : Nat} (h : Turned c d) (hc : c ≤ 64) : d = c := by
  rcases h with h | ⟨h1, h2, h3⟩ | ⟨h1, h2, h3⟩ <;> omega

theorem one_bt (n : Nat) (h : n < 256) : bt (one n) 0 = n := by
  show (UInt8.ofNat n).toNat = _
  rw [UInt8.toNat_ofNat_of_lt' (by simpa using h)]
theorem one_size (n : Nat) : (one n).size = 1 := rfl
theorem smallTo_bt (s : ByteArray) : ∀ j, ∀ i, i < j → bt (smallTo s j) i = lowC (bt s i)
  | 0, i, h => by omega
  | j + 1, i, h => by
    show bt (smallTo s j ++ one (lowC (bt s j))) i = _
    rw [bt_append, smallTo_size]
    by_cases c : i < j
    · rw [if_pos c]; exact smallTo_bt s j i c
    · have : i = j := by omega
      subst this
      rw [if_neg (by omega), Nat.sub_self, one_bt _ (lowC_lt (bt_lt s i))]
theorem small_bt (s : ByteArray) (i : Nat) (h : i < s.size) : bt (smallP s) i = lowC (bt s i) := smallTo_bt s s.size i h

theorem flips_small {s t : ByteArray} (h : Flips s t) : smallP t = smallP s := by
  refine bt_ext (by rw [smallP_size, smallP_size, h.1]) fun i hi => ?_
  rw [smallP_size] at hi
  have hi2 : i < s.size := by have := h.1; omega
  rw [small_bt t i hi, small_bt s i hi2, turned_low (h.2 i hi2)]
theorem flips_tl {s t : ByteArray} (h : Flips s t) {k : Nat} (hk : Tl s k) : Tl t k := by
  induction hk with
  | root k h1 h2 =>
    have h3 := turned_few (h.2 k (by omega)) (by omega)
    exact .root k (by rw [h.1]; exact h1) (by rw [h3]; exact h2)
  | lab k h1 h2 h3 ih =>
    have h4 := turned_few (h.2 k (by have := h3.lt; omega)) (by omega)
    exact .lab k (by omega) (by omega) (by rw [h4]; exact ih)
theorem flips_whole {s t : ByteArray} (h : Flips s t) (hs : wholeB s = true) : wholeB t = true := by
  obtain ⟨h1, h2⟩ := (whole_iff s).1 hs
  exact (whole_iff t).2 ⟨flips_tl h h1, by rw [h.1]; exact h2⟩

theorem origin_low : ∀ i, i < 10 → lowC (bt originB i) = bt originB i := by decide
theorem label_low {s : ByteArray} (h : labelOk s) : smallP (underP s) = underP s := by
  refine bt_ext (smallP_size _) fun i hi => ?_
  rw [smallP_size] at hi
  rw [small_bt _ i hi]
  rw [under_size] at hi
  have hz := h.2.2
  have e : bt (underP s) i = if i < 1 then s.size else if i < 1 + s.size then bt s (i - 1) else bt originB (i - 1 - s.size) := by
    unfold underP
    rw [append_assoc', bt_append, one_size]
    by_cases c : i < 1
    · rw [if_pos c, if_pos c]
      have : i = 0 := by omega
      subst this
      exact one_bt _ (by omega)
    · rw [if_neg c, if_neg c, bt_append]
      by_cases c2 : i < 1 + s.size
      · rw [if_pos c2, if_pos (by omega)]
      · rw [if_neg c2, if_neg (by omega)]
  rw [e]
  by_cases c : i < 1
  · rw [if_pos c]
    unfold lowC
    rw [if_neg (by omega)]
  · rw [if_neg c]
    by_cases c2 : i < 1 + s.size
    · rw [if_pos c2]
      have h3 := h.1 (i - 1) (by omega)
      unfold lowC
      rw [if_neg]
      unfold labC at h3
      omega
    · rw [if_neg c2]
      exact origin_low _ (by omega)

/-- A name stands in itself; the origin in what is under it. -/
theorem within_self (n : ByteArray) (h : 0 < n.size) : withinAt n n 0 = true := by
  rw [withinAt, dif_pos h, if_pos (extract_all n)]
theorem within_under (s : ByteArray) (h1 : s.size ≤ 15) : withinAt (underP s) originB 0 = true := by
  have hs := under_size s
  have hb : bt (underP s) 0 = s.size := by
    unfold underP
    rw [append_assoc', bt_append, one_size, if_pos (by omega)]
    exact one_bt _ (by omega)
  have hx : (underP s).extract (1 + s.size) (underP s).size = originB := by
    have := extract_back (one s.size ++ s) originB
    rw [ByteArray.size_append, one_size] at this
    exact this
  rw [withinAt, dif_pos (by omega)]
  split
  · rfl
  · rw [hb, withinAt, dif_pos (by omega), show 0 + 1 + s.size = 1 + s.size by omega, if_pos hx]
end Go.Proofs.YtdhobdmhnocbgabGreat

namespace Go.Proofs.YtdhobdmhnocbgabGreat
open Go.RowKit Zr

/-- The zone's own record. -/
noncomputable def soaR (l : List Ev) : RI := madeR originB 6 (soaB (incP (goodL l)).toNat)
theorem hosts_none (z : List RI) (L : List ST) (h : servicesP L = []) : hostsP z L = L := by
  unfold hostsP
  rw [h]
  rfl

/-- A question of the class IN at or below the origin, with nothing beside it. -/
def askM (id : Int) (n : ByteArray) (t : Int) : MI := ⟨id, 0, [⟨n, t, 1⟩], [], [], []⟩
theorem ask_ok {id : Int} {n : ByteArray} {t : Int} (h1 : wordOk id) (h2 : wholeB n = true) (h3 : wordOk t) : msgOk (askM id n t) := by
  refine ⟨h1, ⟨by show (0 : Int) ≤ 0; decide, by show (0 : Int) ≤ 65535; decide⟩, ⟨by show 1 ≤ 65535; omega, fun i hi => ?_⟩, ⟨by show 0 ≤ 65535; omega, fun i hi => by simp [askM] at hi⟩, ⟨by show 0 ≤ 65535; omega, fun i hi => by simp [askM] at hi⟩, ⟨by show 0 ≤ 65535; omega, fun i hi => by simp [askM] at hi⟩⟩
  have : i = 0 := by simp [askM] at hi; omega
  subst this
  exact ⟨h2, h3, ⟨by show (0 : Int) ≤ 1; decide, by show (1 : Int) ≤ 65535; decide⟩⟩
theorem ask_size {id : Int} {n : ByteArray} {t : Int} (h1 : wordOk id) (h2 : wholeB n = true) (h3 : wordOk t) : (writ (askM id n t).nat).1.size ≤ 512 := by
  refine Nat.le_trans (writ_le _ (ask_ok h1 h2 h3)) ?_
  have := (whole_pos h2).2
  show 12 + n.size + 4 + 0 + 0 + 0 ≤ 512
  omega
theorem ask_take (id : Nat) (i : Int) (n : ByteArray) (t : Int) (l : List Ev) (stream : Bool) (hw : withinAt (smallP n) originB 0 = true) : takeP id 32768 (askM i n t) l stream = ⟨id, 33792, toldP (recordsM l) (smallP n), [⟨n, t, 1⟩], false, setsP (recordsM l) (smallP n) t, limP 0 stream⟩ := by
  unfold takeP askM
  simp only
  have hr : refusalP (0 : Int).toNat (lifeP []) (⟨n, t, 1⟩ : QI) = 0 := by
    unfold refusalP
    have e1 : (0 : Int).toNat &&& 30720 = 0 := rfl
    have e2 : lifeP [] = 0 := rfl
    rw [e1, e2, if_neg (by simp), if_neg (by simp), if_neg]
    rintro (h | h)
    · exact h rfl
    · rw [hw] at h; cases h
  rw [if_pos hr]
  rfl

theorem of_count (z : List RI) (n : ByteArray) (t : Int) : (ofP z n t).length = havP z n t := by
  unfold ofP havP
  rw [← List.countP_eq_length_filter]

/-- A node that is up has its address, and nothing else is wanted. -/
theorem found_sets {L : List Ev} {e : Ev} (he : e ∈ upP L) : setsP (recordsM L) (underP e.node) (kindOf e) = [⟨0, kindOf e, [madeR (underP e.node) (kindOf e) e.addr]⟩] ∧ toldP (recordsM L) (underP e.node) = 0 := by
  have heM : e ∈ upM L := by rw [up_same]; exact he
  have hrec : madeR (underP e.node) (kindOf e) e.addr ∈ recordsM L := by
    unfold recordsM
    refine List.mem_append_left _ (List.mem_append_left _ (List.mem_append_right _ (List.mem_flatMap.2 ⟨e, heM, ?_⟩)))
    unfold nodeR kindOf
    exact List.mem_cons_self
  have hk := kind_of e
  have c5 : ofP (recordsM L) (underP e.node) 5 = [] := by
    have h1 := of_count (recordsM L) (underP e.node) 5
    rw [records_same, hav_one he 5 (by omega)] at h1
    have h2 : (ofP (recordsP L) (underP e.node) 5).length = 0 := by
      rw [h1, if_neg (by omega)]
      split <;> simp
    rw [records_same]
    exact List.length_eq_zero_iff.1 h2
  have ck : ofP (recordsM L) (underP e.node) (kindOf e) = [madeR (underP e.node) (kindOf e) e.addr] := by
    have h1 := of_count (recordsM L) (underP e.node) (kindOf e)
    have h2 : havP (recordsM L) (underP e.node) (kindOf e) = 1 := by
      rw [records_same, hav_one he (kindOf e) (by omega), if_pos rfl]
      split
      · rfl
      · rw [if_neg (by omega)]
    rw [h2] at h1
    obtain ⟨y, hy⟩ := List.length_eq_one_iff.1 h1
    have h3 : madeR (underP e.node) (kindOf e) e.addr ∈ ofP (recordsM L) (underP e.node) (kindOf e) := List.mem_filter.2 ⟨hrec, decide_eq_true ⟨rfl, rfl⟩⟩
    rw [hy, List.mem_singleton] at h3
    rw [hy, h3]
  have hhas : hasP (recordsM L) (underP e.node) = true := by
    unfold hasP
    rw [List.any_eq_true]
    exact ⟨_, hrec, within_self (underP e.node) (by rw [under_size]; omega)⟩
  have haim : aimP (recordsM L) (underP e.node) = underP e.node := by unfold aimP; rw [c5]
  have hansw : answP (recordsM L) [] (underP e.node) (kindOf e) = [⟨0, kindOf e, [madeR (underP e.node) (kindOf e) e.addr]⟩] := by
    unfold answP wantP
    rw [if_neg (by omega), if_neg (by omega), haim, c5, if_pos rfl, ck, if_neg (by simp)]
    rfl
  constructor
  · unfold setsP
    rw [hhas, if_pos rfl]
    have hm : mainP (recordsM L) (underP e.node) (kindOf e) = [⟨0, kindOf e, [madeR (underP e.node) (kindOf e) e.addr]⟩] := by
      unfold mainP
      rw [hansw]
      have : answersP [⟨0, kindOf e, [madeR (underP e.node) (kindOf e) e.addr]⟩] (kindOf e) = true := by
        unfold answersP hasSetP
        rw [if_neg (by omega)]
        simp
      rw [this, if_pos rfl]
    rw [hm]
    exact hosts_none _ _ (services_none fun s hs => by rw [List.mem_singleton] at hs; subst hs; show kindOf e ≠ 33; omega)
  · unfold toldP
    rw [hhas, if_pos rfl]

/-- The answer to a question for a node that is up. -/
theorem found_p {L : List Ev} {e : Ev} (he : e ∈ upP L) (id : Nat) (hid : id < 65536) (q : List QI) (hq : quesOk q) (hq1 : q.length ≤ 1) (stream : Bool) {c : Nat}
    (h : Fitting ⟨id, 33792, toldP (recordsM L) (underP e.node), q, false, setsP (recordsM L) (underP e.node) (kindOf e), limP 0 stream⟩ c) :
    repMsg ⟨id, 33792, toldP (recordsM L) (underP e.node), q, false, setsP (recordsM L) (underP e.node) (kindOf e), limP 0 stream⟩ c = ⟨id, 33792, q, [madeR (underP e.node) (kindOf e) e.addr], [], []⟩ := by
  obtain ⟨h1, h2⟩ := found_sets he
  rw [h1, h2] at h ⊢
  have hr : RepOk ⟨id, 33792, 0, q, false, [⟨0, kindOf e, [madeR (underP e.node) (kindOf e) e.addr]⟩], limP 0 stream⟩ := ⟨hid, by show (32768 : Nat) ≤ 33792; decide, by show (33792 : Nat) < 65536; decide, by show (0 : Nat) ≤ 16; decide, hq, hq1⟩
  have hrec : madeR (underP e.node) (kindOf e) e.addr ∈ recordsM L := by
    have heM : e ∈ upM L := by rw [up_same]; exact he
    unfold recordsM
    refine List.mem_append_left _ (List.mem_append_left _ (List.mem_append_right _ (List.mem_flatMap.2 ⟨e, heM, ?_⟩)))
    unfold nodeR kindOf
    exact List.mem_cons_self
  have hp : Parted [⟨0, kindOf e, [madeR (underP e.node) (kindOf e) e.addr]⟩] := List.pairwise_singleton _ _
  have h2' : ∀ s, s ∈ [(⟨0, kindOf e, [madeR (underP e.node) (kindOf e) e.addr]⟩ : ST)] → s.part ≤ 2 := fun s hs => by rw [List.mem_singleton] at hs; subst hs; exact Nat.zero_le _
  have hfit := rep_fit ⟨id, 33792, 0, q, false, [⟨0, kindOf e, [madeR (underP e.node) (kindOf e) e.addr]⟩], limP 0 stream⟩ hr hp h2' (fun s hs y hy => by
    rw [List.mem_singleton] at hs
    subst hs
    rw [List.mem_singleton] at hy
    subst hy
    exact zone_ok hrec) (by show 311 + 97 * 1 ≤ limP 0 stream; cases stream <;> decide) (by show limP 0 stream ≤ 65535; cases stream <;> decide)
  have hc := fitting_all _ hr hp h2' hfit h
  subst hc
  unfold repMsg
  rw [(flag_cut _ _ _).2 (cut_none _)]
  simp [partP, optsP]

end Go.Proofs.YtdhobdmhnocbgabGreat

namespace Go.Proofs.YtdhobdmhnocbgabGreat
open Go.RowKit Zr

theorem flips_push {s B : ByteArray} {j c : Nat} (hB : B.size = j) (h : ∀ i, i < j → Turned (bt s i) (bt B i)) (hc : Turned (bt s j) c) (hl : c < 256) : (B ++ one c).size = j + 1 ∧ ∀ i, i < j + 1 → Turned (bt s i) (bt (B ++ one c) i) := by
  refine ⟨by rw [ByteArray.size_append, hB]; rfl, fun i hi => ?_⟩
  rw [bt_append, hB]
  by_cases q : i < j
  · rw [if_pos q]; exact h i q
  · have : i = j := by omega
    subst this
    rw [if_neg (by omega), Nat.sub_self, one_bt c hl]
    exact hc

set_option maxRecDepth 100000 in
set_option maxHeartbeats 2000000 in
theorem flipped_k (s : ByteArray) (v : Int) (w : World) (hs : s.size ≤ 4294967296) :
    Calls Tryz.prog 23 #[.string s, .int .i64 v] w fun e w' => (∃ t, Flips s t ∧ e = .returned (.string t)) ∧ Below w.heap.size w w' := by
  obtain ⟨i0, hi, hz0, hz1, hz2⟩ := info_parts Tryz.info5
  have Hi := hide hi
  have Hz0 := hide hz0
  have Hz1 := hide hz1
  have Hz2 := hide hz2
  clear hi hz0 hz1 hz2
  obtain ⟨N, hN⟩ : ∃ N, w.heap.size = N := ⟨_, rfl⟩
  rw [hN]
  go_enter Tryz.func23, Tryz.ntmps23
  go_wp2_with fail
  go_loopg [5, 6] (s.size + 1) (fun g vb vi w' => ∃ (j : Nat) (ab : Option Addr) (cb : Nat) (B : ByteArray), vi = .int .i64 j ∧ j ≤ s.size ∧ g = s.size + 1 - j ∧ vb = .slice ab j cb ∧ Hid (B.size = j ∧ ∀ i, i < j → Turned (bt s i) (bt B i)) ∧ Hid (w'.ownsRow N 5 1 (.slice ab j cb) j (byteCells B)) ∧ Hid (Below N w w') ∧ N ≤ w'.heap.size)
  case atStart => exact ⟨0, none, 0, ⟨#[]⟩, rfl, Nat.zero_le _, rfl, rfl, hide ⟨rfl, fun i h => by omega⟩, hide (World.ownsRow_nil _ _ _ _), hide (Below.refl _ _), by omega⟩
  case round =>
    obtain ⟨j, ab, cb, B, rfl, hj, rfl, rfl, HBt, HO, HB, hNw⟩ := hrel
    by_cases cj : j < s.size
    · have hg := bt_get s j cj
      have hlt := bt_lt s j
      have HP := hide (fun c (hc : Turned (bt s j) c) (hl : c < 256) => flips_push (unhide HBt).1 (unhide HBt).2 hc hl)
      have hm : 0 ≤ ((j : Int) % 62) := by omega
      generalize bt s j = c at *
      go_upto_region 7 with fail
      generalize (bits BinOp.and IntKind.i64 (v / 2 ^ (j % 62)) 1 == 1) = turn
      have hcase : ∃ d, d < 256 ∧ Turned c d ∧ ((d = c ∧ (turn = false ∨ c < 65 ∨ (90 < c ∧ c < 97) ∨ 122 < c)) ∨ (turn = true ∧ 97 ≤ c ∧ c ≤ 122 ∧ d + 32 = c) ∨ (turn = true ∧ 65 ≤ c ∧ c ≤ 90 ∧ d = c + 32)) := by
        cases turn with
        | false => exact ⟨c, hlt, .inl rfl, .inl ⟨rfl, .inl rfl⟩⟩
        | true =>
          by_cases q1 : 97 ≤ c ∧ c ≤ 122
          · exact ⟨c - 32, by omega, .inr (.inl ⟨q1.1, q1.2, by omega⟩), .inr (.inl ⟨rfl, q1.1, q1.2, by omega⟩)⟩
          · by_cases q2 : 65 ≤ c ∧ c ≤ 90
            · exact ⟨c + 32, by omega, .inr (.inr ⟨q2.1, q2.2, rfl⟩), .inr (.inr ⟨rfl, q2.1, q2.2, rfl⟩)⟩
            · exact ⟨c, hlt, .inl rfl, .inl ⟨rfl, .inr (by omega)⟩⟩
      obtain ⟨d, hd, htd, hcase⟩ := hcase
      have HP2 := hide (unhide HP d htd hd)
      clear HP htd
      rcases hcase with ⟨rfl, rfl | q | q | q⟩ | ⟨rfl, q1, q2, q3⟩ | ⟨rfl, q1, q2, q3⟩
      · go_wp2_with (at_builtin; refine wpList_append_row _ rfl _ _ 70 70 rfl N 5 i0 (.int .u8 0) 1 1 Tryz.underlying70 (unhide Hi) (unhide Hz0) (unhide Hz1) (unhide Hz2) rfl (.slice ab j cb) j (byteCells B) (by rfl) ((unhide HO).alloc _) (.slice (some ⟨wr.heap.size, 0, none⟩) 1 1) 1 [.int .u8 (d : Nat)] (by rfl) (Src.ofSlice _ Tryz.underlying70 ⟨wr.heap.size, 0, none⟩ 1 1 _ rfl (an_cell1 _ _ _ _ rfl) (fun x hx => by simp at hx; rcases hx with rfl <;> rfl)) (by unfold maxLen; omega) (by omega) (by simp; omega) ?_; intro a1 e1 w2 hown2 hgrow2 hat2)
        go_roundg (s.size + 1 - (j + 1))
        case measure => omega
        case rel =>
          refine ⟨j + 1, a1, e1, B ++ one d, by go_num, by omega, rfl, rfl, HP2, ?_, hide (((unhide HB).alloc hNw _).trans (below_append ((unhide HO).alloc _) hgrow2 (by simp; omega))), ?_⟩
          · rw [byteCells_append, one_cells _ hd]; exact hide hown2
          · have := hgrow2.size; simp at this; omega
      · cases turn
        all_goals
          go_wp2_with (at_builtin; refine wpList_append_row _ rfl _ _ 70 70 rfl N 5 i0 (.int .u8 0) 1 1 Tryz.underlying70 (unhide Hi) (unhide Hz0) (unhide Hz1) (unhide Hz2) rfl (.slice ab j cb) j (byteCells B) (by rfl) ((unhide HO).alloc _) (.slice (some ⟨wr.heap.size, 0, none⟩) 1 1) 1 [.int .u8 (d : Nat)] (by rfl) (Src.ofSlice _ Tryz.underlying70 ⟨wr.heap.size, 0, none⟩ 1 1 _ rfl (an_cell1 _ _ _ _ rfl) (fun x hx => by simp at hx; rcases hx with rfl <;> rfl)) (by unfold maxLen; omega) (by omega) (by simp; omega) ?_; intro a1 e1 w2 hown2 hgrow2 hat2)
          go_roundg (s.size + 1 - (j + 1))
          case measure => omega
          case rel =>
            refine ⟨j + 1, a1, e1, B ++ one d, by go_num, by omega, rfl, rfl, HP2, ?_, hide (((unhide HB).alloc hNw _).trans (below_append ((unhide HO).alloc _) hgrow2 (by simp; omega))), ?_⟩
            · rw [byteCells_append, one_cells _ hd]; exact hide hown2
            · have := hgrow2.size; simp at this; omega
      · cases turn
        all_goals
          go_wp2_with (at_builtin; refine wpList_append_row _ rfl _ _ 70 70 rfl N 5 i0 (.int .u8 0) 1 1 Tryz.underlying70 (unhide Hi) (unhide Hz0) (unhide Hz1) (unhide Hz2) rfl (.slice ab j cb) j (byteCells B) (by rfl) ((unhide HO).alloc _) (.slice (some ⟨wr.heap.size, 0, none⟩) 1 1) 1 [.int .u8 (d : Nat)] (by rfl) (Src.ofSlice _ Tryz.underlying70 ⟨wr.heap.size, 0, none⟩ 1 1 _ rfl (an_cell1 _ _ _ _ rfl) (fun x hx => by simp at hx; rcases hx with rfl <;> rfl)) (by unfold maxLen; omega) (by omega) (by simp; omega) ?_; intro a1 e1 w2 hown2 hgrow2 hat2)
          go_roundg (s.size + 1 - (j + 1))
          case measure => omega
          case rel =>
            refine ⟨j + 1, a1, e1, B ++ one d, by go_num, by omega, rfl, rfl, HP2, ?_, hide (((unhide HB).alloc hNw _).trans (below_append ((unhide HO).alloc _) hgrow2 (by simp; omega))), ?_⟩
            · rw [byteCells_append, one_cells _ hd]; exact hide hown2
            · have := hgrow2.size; simp at this; omega
      · cases turn
        all_goals
          go_wp2_with (at_builtin; refine wpList_append_row _ rfl _ _ 70 70 rfl N 5 i0 (.int .u8 0) 1 1 Tryz.underlying70 (unhide Hi) (unhide Hz0) (unhide Hz1) (unhide Hz2) rfl (.slice ab j cb) j (byteCells B) (by rfl) ((unhide HO).alloc _) (.slice (some ⟨wr.heap.size, 0, none⟩) 1 1) 1 [.int .u8 (d : Nat)] (by rfl) (Src.ofSlice _ Tryz.underlying70 ⟨wr.heap.size, 0, none⟩ 1 1 _ rfl (an_cell1 _ _ _ _ rfl) (fun x hx => by simp at hx; rcases hx with rfl <;> rfl)) (by unfold maxLen; omega) (by omega) (by simp; omega) ?_; intro a1 e1 w2 hown2 hgrow2 hat2)
          go_roundg (s.size + 1 - (j + 1))
          case measure => omega
          case rel =>
            refine ⟨j + 1, a1, e1, B ++ one d, by go_num, by omega, rfl, rfl, HP2, ?_, hide (((unhide HB).alloc hNw _).trans (below_append ((unhide HO).alloc _) hgrow2 (by simp; omega))), ?_⟩
            · rw [byteCells_append, one_cells _ hd]; exact hide hown2
            · have := hgrow2.size; simp at this; omega
      · go_wp2_with (at_builtin; refine wpList_append_row _ rfl _ _ 70 70 rfl N 5 i0 (.int .u8 0) 1 1 Tryz.underlying70 (unhide Hi) (unhide Hz0) (unhide Hz1) (unhide Hz2) rfl (.slice ab j cb) j (byteCells B) (by rfl) ((unhide HO).alloc _) (.slice (some ⟨wr.heap.size, 0, none⟩) 1 1) 1 [.int .u8 ((c : Int) - 97 + 65)] (by rfl) (Src.ofSlice _ Tryz.underlying70 ⟨wr.heap.size, 0, none⟩ 1 1 _ rfl (an_cell1 _ _ _ _ rfl) (fun x hx => by simp at hx; rcases hx with rfl <;> rfl)) (by unfold maxLen; omega) (by omega) (by simp; omega) ?_; intro a1 e1 w2 hown2 hgrow2 hat2)
        go_roundg (s.size + 1 - (j + 1))
        case measure => omega
        case rel =>
          refine ⟨j + 1, a1, e1, B ++ one d, by go_num, by omega, rfl, rfl, HP2, ?_, hide (((unhide HB).alloc hNw _).trans (below_append ((unhide HO).alloc _) hgrow2 (by simp; omega))), ?_⟩
          · have e3 : ((c : Int) - 97 + 65) = ((d : Nat) : Int) := by omega
            rw [e3] at hown2
            rw [byteCells_append, one_cells _ hd]; exact hide hown2
          · have := hgrow2.size; simp at this; omega
      · go_wp2_with (at_builtin; refine wpList_append_row _ rfl _ _ 70 70 rfl N 5 i0 (.int .u8 0) 1 1 Tryz.underlying70 (unhide Hi) (unhide Hz0) (unhide Hz1) (unhide Hz2) rfl (.slice ab j cb) j (byteCells B) (by rfl) ((unhide HO).alloc _) (.slice (some ⟨wr.heap.size, 0, none⟩) 1 1) 1 [.int .u8 ((c : Int) - 65 + 97)] (by rfl) (Src.ofSlice _ Tryz.underlying70 ⟨wr.heap.size, 0, none⟩ 1 1 _ rfl (an_cell1 _ _ _ _ rfl) (fun x hx => by simp at hx; rcases hx with rfl <;> rfl)) (by unfold maxLen; omega) (by omega) (by simp; omega) ?_; intro a1 e1 w2 hown2 hgrow2 hat2)
        go_roundg (s.size + 1 - (j + 1))
        case measure => omega
        case rel =>
          refine ⟨j + 1, a1, e1, B ++ one d, by go_num, by omega, rfl, rfl, HP2, ?_, hide (((unhide HB).alloc hNw _).trans (below_append ((unhide HO).alloc _) hgrow2 (by simp; omega))), ?_⟩
          · have e3 : ((c : Int) - 65 + 97) = ((d : Nat) : Int) := by omega
            rw [e3] at hown2
            rw [byteCells_append, one_cells _ hd]; exact hide hown2
          · have := hgrow2.size; simp at this; omega
    · have ej : j = s.size := by omega
      subst ej
      have ho := unhide HO
      have hF : Flips s B := unhide HBt
      have eB := hF.1
      have HF := hide hF
      rw [← eB] at ho
      clear hF
      go_wp2_with fail
      rw [← eB]
      rw [run_bytes_row _ 70 9 5 Tryz.underlying70 Tryz.underlying5 Tryz.underlying9 N _ B ho]
      clear ho
      go_wp2_with fail
      go_ret
      exact ⟨⟨B, unhide HF, rfl⟩, unhide HB⟩

end Go.Proofs.YtdhobdmhnocbgabGreat

namespace Go.Proofs.YtdhobdmhnocbgabGreat
open Go.RowKit Zr

theorem put_len (L : List Ev) (k : Nat) (x : Ev) : (L.take k ++ x :: L.drop k).length = L.length + 1 := by
  rw [List.length_append, List.length_cons, List.length_take, List.length_drop]
  omega
end Go.Proofs.YtdhobdmhnocbgabGreat

namespace Go.Proofs.YtdhobdmhnocbgabGreat
open Go.RowKit Zr

/-- A message of one question, in memory. -/
theorem ask_at {w : World} {Q : Nat} {id : Int} {n : ByteArray} {t : Int} (hQ : w.heap[Q]? = some (.cells #[.string n, .int .i64 t, .int .i64 1] 39 (0, 0))) (hn : n.size ≤ 255) :
    MsgAt w w.heap.size (.agg #[.int .i64 id, .int .i64 0, .slice (some ⟨Q, 0, none⟩) 1 1, .slice none 0 0, .slice none 0 0, .slice none 0 0]) (askM id n t) := by
  refine ⟨some ⟨Q, 0, none⟩, 1, none, 0, none, 0, none, 0, rfl, fun _ => ⟨Q, 0, rfl, blk_lt hQ, fun j u hu => ?_⟩, fun q => absurd rfl q, fun q => absurd rfl q, fun q => absurd rfl q, fun i hi => ?_, fun i hi => by simp [askM] at hi, fun i hi => by simp [askM] at hi, fun i hi => by simp [askM] at hi, Nat.le_refl _, Nat.le_refl _, Nat.le_refl _, Nat.le_refl _⟩
  · obtain ⟨⟨x0, x1, x2⟩, _⟩ := cells3 hQ
    have hu' : ([.string n, .int .i64 t, .int .i64 1] : List Value)[j]? = some u := hu
    match j with
    | 0 => cases hu'; exact x0
    | 1 => cases hu'; exact x1
    | 2 => cases hu'; exact x2
    | j + 3 => simp at hu'
  · have : i = 0 := by simp [askM] at hi; omega
    subst this
    show n.size ≤ _
    omega

/-- The reply to a question of that kind. -/
theorem ask_rep (l : List Ev) (id : Nat) (n : ByteArray) (t : Nat) (stream : Bool) (hid : id < 65536) (hn : wholeB n = true) (ht : t < 65536) (hw : withinAt (smallP n) originB 0 = true) :
    repP l (writ (askM id n t).nat).1 stream = ⟨id, 33792, toldP (recordsM l) (smallP n), [⟨n, t, 1⟩], false, setsP (recordsM l) (smallP n) t, limP 0 stream⟩ ∧ ¬ Mute (writ (askM id n t).nat).1 ∧ (writ (askM id n t).nat).1.size ≤ 65535 ∧ msgOk (askM id n t) := by
  have h1 : wordOk (id : Int) := ⟨by omega, by omega⟩
  have h3 : wordOk (t : Int) := ⟨by omega, by omega⟩
  have hok := ask_ok h1 hn h3
  have hsz := ask_size h1 hn h3
  have hz : (writ (askM id n t).nat).1.size ≤ 65535 := by omega
  refine ⟨?_, not_mute _ hok hz (by show (0 : Int) < 32768; decide), hz, hok⟩
  rw [rep_of l _ stream hok hz]
  have e1 : (askM (id : Int) n t).id.toNat = id := Int.toNat_natCast id
  have e2 : 32768 ||| ((askM (id : Int) n t).flags.toNat &&& 30976) = 32768 := by show 32768 ||| ((0 : Int).toNat &&& 30976) = 32768; rfl
  rw [e1, e2]
  exact ask_take id (id : Int) n t l stream hw

end Go.Proofs.YtdhobdmhnocbgabGreat

namespace Go.Proofs.YtdhobdmhnocbgabGreat
open Go.RowKit Zr

theorem five_store {w : World} {P : Nat} {x0 x1 x2 x3 x4 : Value} {t : TypeId} (h : w.heap[P]? = some (.cells #[x0, x1, x2, x3, x4] t (0, 0))) (v0 v1 v2 v3 v4 : Value) :
    (((((w.setCell ⟨P, 0, none⟩ v0).setCell ⟨P, 1, none⟩ v1).setCell ⟨P, 2, none⟩ v2).setCell ⟨P, 3, none⟩ v3).setCell ⟨P, 4, none⟩ v4).heap[P]? = some (.cells #[v0, v1, v2, v3, v4] t (0, 0)) := by
  rw [blk_set (blk_set (blk_set (blk_set (blk_set h _ _) _ _) _ _) _ _) _ _]; rfl
set_option maxRecDepth 100000 in
set_option maxHeartbeats 8000000 in
theorem found_k (l : List Ev) (al : Option Addr) (cl : Nat) (a : Option Addr) (n c : Nat) (v caps : Int) (stream : Bool) (w : World) (hrow : RowAt w w.heap.size al (evC l)) (hl : l.length + 1 ≤ 1048576) (hz : EvSized l) (hraw : RawAt w w.heap.size a n) (hn : n ≤ 9223372036854775807) (h1 : -9223372036854775808 ≤ v) (h2 : v < 9223372036854775808) :
    Calls Tryz.prog 5 #[.slice al l.length cl, .slice a n c, .int .i64 v, .int .i64 caps, .bool stream] w fun e w' => e = .returned (.bool true) ∧ Below w.heap.size w w' := by
  have HRow := hide hrow
  have HZ := hide hz
  obtain ⟨N, hN⟩ : ∃ N, w.heap.size = N := ⟨_, rfl⟩
  have hR2 := ro_start (c := c) hraw (Nat.le_refl _) hn
  have hB2 := (Below.refl w.heap.size w).alloc (Nat.le_refl _) (.cells #[.slice a n c, .int .i64 0, .slice none 0 0] 45)
  have hs2 := hB2.size
  rw [hN] at HRow hR2 hB2 hs2 ⊢
  have HR2 := hide hR2
  have HB2 := hide hB2
  clear hrow hz hraw hR2 hB2
  go_enter Tryz.func5, Tryz.ntmps5
  go_wp2_with fail
  generalize w.alloc (.cells #[.slice a n c, .int .i64 0, .slice none 0 0] 45) = w3 at *
  have hs3 : N ≤ w3.heap.size := hs2
  have KO := hide (node_k N N a n c [] l al cl w3 (unhide HR2) (rowK_low ((unhide HRow).below (unhide HB2)) hs3) (by omega) (unhide HZ))
  have HB3 := HB2
  clear HR2 HB2 hs2
  refine (unhide KO).mono ?_
  rintro e w4 ⟨⟨nd, rfl, hnd⟩, hR4, hF4⟩
  have hB4 := (unhide HB3).trans (hF4.below hs3)
  have hs4 : N ≤ w4.heap.size := by have := hB4.size; omega
  have KN := hide (newest_k nd l al cl N w4 ((unhide HRow).below hB4) hs4 (by omega))
  have HND := hide hnd
  have HR4 := hide hR4
  have HB4 := hide hB4
  clear KO HB3 hs3 hR4 hF4 hB4 hnd
  go_wp2_with fail
  refine (unhide KN).mono ?_
  rintro e w5 ⟨a2, c2, v2, rfl, hv2, hab, hown, hb5⟩
  have hll : (restL nd l).length + 1 ≤ 1048576 := by have := List.length_filter_le (fun x : Ev => !decide (x.node = nd ∧ x.inc = 2147483647)) l; unfold restL; omega
  have hR5 := (unhide HR4).below hb5
  have hB5 := (unhide HB4).trans (hb5.mono hs4)
  have HSz := hide (rest_sized (nd := nd) (unhide HZ))
  have hold : ∀ x : Ev, x.node = nd → x.inc = (v2 : Int) → Older (restL nd l) x := fun x h h' => above_older hab h h'
  generalize restL nd l = L at *
  have hs5 : N ≤ w5.heap.size := by have := hB5.size; omega
  have KA := hide (alive_k N N a n c [] L a2 c2 nd (v2 : Nat) w5 hR5 (rowK_own hown) (by omega) (unhide HSz))
  have HOld := hide hold
  have HOwn := hide hown
  have HB5 := hide hB5
  clear KN HR4 HB4 hs4 hb5 hR5 hB5 hown hold hab
  go_wp2_with fail
  refine (unhide KA).mono ?_
  rintro e w6 ⟨⟨x, rfl, hx1, hx2, hx3, hx4⟩, hR6, hF6⟩
  obtain ⟨xk, xn, xi, ad, pt, tx, ax⟩ := x
  simp only at hx1 hx2 hx3
  obtain rfl := hx1
  obtain rfl := hx2.symm
  obtain rfl := hx3
  unfold Ev.val
  simp only
  have hG : goodE (⟨1, nd, (v2 : Int), ad, pt, tx, ax⟩ : Ev) := ⟨unhide HND, Int.natCast_nonneg _, by show (v2 : Int) ≤ 2147483647; omega, .inr ⟨rfl, hx4⟩⟩
  have hX4 : ad.size ≤ 16 ∧ tx.size ≤ 60 ∧ ax.size ≤ 15 := by
    refine ⟨?_, hx4.2.2.2.2, ?_⟩
    · rcases hx4.2.1 with q | q
      · have q' : ad.size = 4 := q
        omega
      · have q' : ad.size = 16 := q
        omega
    · rcases hx4.1 with q | q
      · have q' : ax = ⟨#[]⟩ := q
        rw [q']; show (0 : Nat) ≤ 15; omega
      · exact q.2.2
  have HUp : Hid (∀ k, (⟨1, nd, (v2 : Int), ad, pt, tx, ax⟩ : Ev) ∈ upP (L.take k ++ (⟨1, nd, (v2 : Int), ad, pt, tx, ax⟩ : Ev) :: L.drop k)) := fun k => new_up hG (by rw [List.take_append_drop]; exact unhide HOld _ rfl rfl) rfl
  have HPs : Hid (∀ k, EvSized (L.take k ++ (⟨1, nd, (v2 : Int), ad, pt, tx, ax⟩ : Ev) :: L.drop k)) := fun k => put_sized (unhide HSz) hG hX4 k
  have hown6 := hF6.owns (unhide HOwn) (by decide) (by decide) (by decide)
  have hB6 := (unhide HB5).trans (hF6.below hs5)
  have hs6 : N ≤ w6.heap.size := by have := hB6.size; omega
  have hbb := (Below.refl w6.heap.size w6).alloc (Nat.le_refl _) (.cells #[.int .i64 1, .string nd, .int .i64 (v2 : Nat), .string ad, .int .i64 pt, .string tx, .string ax] 56)
  have HE8 := hide (heap_alloc_new w6 (.cells #[.int .i64 1, .string nd, .int .i64 (v2 : Nat), .string ad, .int .i64 pt, .string tx, .string ax] 56))
  have HO8 := hide (owns_below hown6 hbb)
  have HR8 := hide (hR6.below hbb)
  have HB8 := hide (hB6.trans (hbb.mono hs6))
  have hnd2 := (unhide HND).2.2
  have hk := kind_of (⟨1, nd, (v2 : Int), ad, pt, tx, ax⟩ : Ev)
  have hkd : (ad.size = 16 ∧ kindOf (⟨1, nd, (v2 : Int), ad, pt, tx, ax⟩ : Ev) = 28) ∨ (ad.size ≠ 16 ∧ kindOf (⟨1, nd, (v2 : Int), ad, pt, tx, ax⟩ : Ev) = 1) := by
    unfold kindOf
    by_cases q : ad.size = 16
    · exact .inl ⟨q, if_pos q⟩
    · exact .inr ⟨q, if_neg q⟩
  obtain ⟨kd, hkdd⟩ : ∃ kd : Nat, kindOf (⟨1, nd, (v2 : Int), ad, pt, tx, ax⟩ : Ev) = (kd : Int) := by
    rcases hk with q | q
    · exact ⟨1, q⟩
    · exact ⟨28, q⟩
  rw [hkdd] at hkd
  have HKd := hide hkdd
  clear KA HB5 HOwn HOld HSz hs5 hR6 hF6 hX4 hG hx4 hk hkdd hbb hown6 hB6
  go_upto_if 45 with fail
  generalize w6.alloc (.cells #[.int .i64 1, .string nd, .int .i64 (v2 : Nat), .string ad, .int .i64 pt, .string tx, .string ax] 56) = w8 at *
  generalize w6.heap.size = E at *
  go_cut [15] (fun vt w' => vt = .int .i64 (kd : Nat) ∧ w' = w8)
  case first =>
    obtain ⟨⟨u0, u1, u2, u3, u4, u5, u6⟩, _⟩ := cells7 (unhide HE8)
    have lE := blk_lt (unhide HE8)
    rcases hkd with ⟨q1, q2⟩ | ⟨q1, q2⟩
    · have f1 : ((ad.size : Int) == 16) = true := by rw [beq_iff_eq]; omega
      go_wp2_with fail
      go_meet
      exact ⟨by rw [q2], rfl⟩
    · have f1 : ((ad.size : Int) == 16) = false := by rw [beq_eq_false_iff_ne]; omega
      go_wp2_with fail
      go_meet
      exact ⟨by rw [q2], rfl⟩
  case rest =>
    obtain ⟨rfl, rfl⟩ := hcut
    have hkl : kd < 65536 := by rcases hkd with ⟨_, q⟩ | ⟨_, q⟩ <;> omega
    have hs8 : N ≤ wc.heap.size := by have := (unhide HB8).size; omega
    clear hkd
    go_wp2_with fail
    refine (host_k nd wc (by omega)).mono ?_
    rintro e w9 ⟨rfl, hb9⟩
    have HE9 := hide ((hb9.block E (blk_lt (unhide HE8))).trans (unhide HE8))
    have HO9 := hide (owns_below (unhide HO8) hb9)
    have HR9 := hide ((unhide HR8).below hb9)
    have HB9 := hide ((unhide HB8).trans (hb9.mono hs8))
    have hs9 : N ≤ w9.heap.size := by have := (unhide HB9).size; omega
    clear hb9 HE8 HO8 HR8 HB8 hs8
    go_wp2_with fail
    refine (flipped_k (underP nd) caps w9 (by rw [under_size]; omega)).mono ?_
    rintro e w10 ⟨⟨nm, hfl, rfl⟩, hb10⟩
    have HFl := hide hfl
    have HE10 := hide ((hb10.block E (blk_lt (unhide HE9))).trans (unhide HE9))
    have HO10 := hide (owns_below (unhide HO9) hb10)
    have HR10 := hide ((unhide HR9).below hb10)
    have HB10 := hide ((unhide HB9).trans (hb10.mono hs9))
    have hs10 : N ≤ w10.heap.size := by have := (unhide HB10).size; omega
    clear hb10 HE9 HO9 HR9 HB9 hs9 hfl
    go_wp2_with fail
    refine (next_any N N a n c [] 65536 65536 w10 (unhide HR10) (by omega) (by omega) rfl).mono ?_
    rintro e w11 ⟨⟨id, hid, rfl⟩, hR11, hg11⟩
    have hF11 := (unhide HR10).next hg11
    have hE11 := hF11.kind _ _ _ _ (unhide HE10) (by decide) (by decide) (by decide)
    have hO11 := hF11.owns (unhide HO10) (by decide) (by decide) (by decide)
    have hB11 := (unhide HB10).trans (hF11.below hs10)
    have hs11 : N ≤ w11.heap.size := by have := hB11.size; omega
    have hbq := (Below.refl w11.heap.size w11).alloc (Nat.le_refl _) (.cells #[.string nm, .int .i64 (kd : Nat), .int .i64 1] 39)
    have hbm := hbq.alloc hbq.size (.cells #[.int .i64 (id : Nat), .int .i64 0, .slice (some ⟨w11.heap.size, 0, none⟩) 1 1, .slice none 0 0, .slice none 0 0, .slice none 0 0] 27)
    obtain ⟨hQ13, hX13⟩ := two_new w11 (.cells #[.string nm, .int .i64 (kd : Nat), .int .i64 1] 39) (.cells #[.int .i64 (id : Nat), .int .i64 0, .slice (some ⟨w11.heap.size, 0, none⟩) 1 1, .slice none 0 0, .slice none 0 0, .slice none 0 0] 27)
    have HE13 := hide ((hbm.block E (blk_lt hE11)).trans hE11)
    have HO13 := hide (owns_below hO11 hbm)
    have HB13 := hide (hB11.trans (hbm.mono hs11))
    have hwn : wholeB nm = true := flips_whole (unhide HFl) (under_whole (unhide HND).2.1 (unhide HND).2.2).1
    have hsn : smallP nm = underP nd := (flips_small (unhide HFl)).trans (label_low (unhide HND))
    have hM13 := ask_at (id := (id : Nat)) hQ13 (whole_pos hwn).2
    have HM13 := hide hM13
    have HX13 := hide hX13
    have HWn := hide hwn
    have HSn := hide hsn
    clear hR11 hg11 hF11 hE11 hO11 hB11 hbq hbm hQ13 hX13 hwn hsn hM13 HE10 HO10 HR10 HB10 hs10
    go_upto_region 10 with fail
    generalize (w11.alloc (.cells #[.string nm, .int .i64 (kd : Nat), .int .i64 1] 39)).alloc (.cells #[.int .i64 (id : Nat), .int .i64 0, .slice (some ⟨w11.heap.size, 0, none⟩) 1 1, .slice none 0 0, .slice none 0 0, .slice none 0 0] 27) = w13 at *
    generalize w11.heap.size = Q at *
    have hX13 : w13.heap[Q + 1]? = some (.cells #[.int .i64 (id : Nat), .int .i64 0, .slice (some ⟨Q, 0, none⟩) 1 1, .slice none 0 0, .slice none 0 0, .slice none 0 0] 27 (0, 0)) := unhide HX13
    obtain ⟨⟨x0, x1, x2, x3, x4, x5⟩, _⟩ := cells6 hX13
    have lX := blk_lt hX13
    obtain ⟨⟨u0, u1, u2, u3, u4, u5, u6⟩, _⟩ := cells7 (unhide HE13)
    have lE := blk_lt (unhide HE13)
    have hs13 : N ≤ w13.heap.size := by have := (unhide HB13).size; omega
    have hrep := fun l' => ask_rep l' id nm kd stream hid (unhide HWn) hkl (by rw [unhide HSn]; exact within_under nd (by omega))
    rw [unhide HSn] at hrep
    have KS := hide (zoneSerialize_any (askM (id : Nat) nm (kd : Nat)) _ _ (unhide HM13))
    have hq := (unhide HM13)
    obtain ⟨_, _, _, _, _, _, _, _, he8, hrq, _⟩ := hq
    cases he8
    have HRq := hide hrq
    obtain ⟨r2, r3, r4⟩ := (hrep []).2
    have HQok := hide (r4.2.2.1)
    obtain ⟨mm, hmm⟩ : ∃ mm, askM (id : Nat) nm (kd : Nat) = mm := ⟨_, rfl⟩
    have hmq : mm.q = [⟨nm, (kd : Nat), 1⟩] := by rw [← hmm]; rfl
    rw [hmm] at hrep KS r2 r3 r4 HRq HQok
    rw [hmq] at HRq HQok
    have HRep := hide (fun l' => (hrep l').1)
    have HR2 := hide r2
    have HR4 := hide r4
    clear r2 r4 hX13 HM13 hmm hrep hrq hmq
    go_wp2_with fail
    refine (unhide KS).mono ?_
    rintro e w14 ⟨⟨s1, x, rfl, hs1⟩, hb14⟩
    have hs2 : s1 = (writ mm.nat).1 ∧ x = 0 := by
      rcases hs1 with ⟨k, _⟩ | ⟨_, k, _⟩ | ⟨_, _, k, k2⟩
      · exact absurd (unhide HR4) k
      · omega
      · exact ⟨k, k2⟩
    obtain ⟨rfl, rfl⟩ := hs2
    have HE14 := hide ((hb14.block E (blk_lt (unhide HE13))).trans (unhide HE13))
    have HO14 := hide (owns_below (unhide HO13) hb14)
    have HX14 := hide ((hb14.block (Q + 1) (blk_lt (unhide HX13))).trans (unhide HX13))
    have HRq14 := hide (((unhide HRq).below hb14).mono hb14.size)
    have HB14 := hide ((unhide HB13).trans (hb14.mono hs13))
    have hs14 : N ≤ w14.heap.size := by have := (unhide HB14).size; omega
    clear x0 x1 x2 x3 x4 x5 lX u0 u1 u2 u3 u4 u5 u6 lE hs1 hb14 KS HE13 HO13 HX13 HRq HB13 hs13 HR4
    obtain ⟨⟨u0, u1, u2, u3, u4, u5, u6⟩, _⟩ := cells7 (unhide HE14)
    have lE := blk_lt (unhide HE14)
    have KM := hide (among_k L (⟨1, nd, (v2 : Int), ad, pt, tx, ax⟩ : Ev) v a2 L.length c2 _ w14 (unhide HO14) rfl (by omega) h1 h2)
    unfold Ev.val at KM
    simp only at KM
    obtain ⟨sb, hsb⟩ : ∃ sb, (writ mm.nat).1 = sb := ⟨_, rfl⟩
    rw [hsb] at r3 ⊢
    have HRep2 := HRep
    have HR22 := HR2
    rw [hsb] at HRep2 HR22
    clear HRep HR2 hsb
    go_wp2_with fail
    refine (unhide KM).mono ?_
    rintro e w15 ⟨k, hk, a3, c3, rfl, hown15, hb15⟩
    have HE15 := hide ((hb15.block E (blk_lt (unhide HE14))).trans (unhide HE14))
    have HX15 := hide ((hb15.block (Q + 1) (blk_lt (unhide HX14))).trans (unhide HX14))
    have HRq15 := hide (((unhide HRq14).below hb15).mono hb15.size)
    have HB15 := hide ((unhide HB14).trans (hb15.mono hs14))
    have hs15 : N ≤ w15.heap.size := by have := (unhide HB15).size; omega
    have hlen : (L.take k ++ (⟨1, nd, (v2 : Int), ad, pt, tx, ax⟩ : Ev) :: L.drop k).length ≤ 1048576 := by rw [put_len]; exact hll
    have KA := hide (answered_k (L.take k ++ (⟨1, nd, (v2 : Int), ad, pt, tx, ax⟩ : Ev) :: L.drop k) a3 c3 w15.heap.size sb stream w15 (own_atN hown15) (Nat.le_refl _) hlen (unhide HPs k) r3 (unhide HR22))
    rw [unhide HRep2, ← unhide HKd] at KA
    have HFp := hide (fun c => found_p (unhide HUp k) id hid [⟨nm, kindOf (⟨1, nd, (v2 : Int), ad, pt, tx, ax⟩ : Ev), 1⟩] (by rw [unhide HKd]; exact unhide HQok) (by simp) stream (c := c))
    have HAok := hide (fun c (h : Fitting _ c) => (ans_ok (repP (L.take k ++ (⟨1, nd, (v2 : Int), ad, pt, tx, ax⟩ : Ev) :: L.drop k) sb stream) (rep_ok _ _ _) h).2.2)
    rw [unhide HRep2, ← unhide HKd] at HAok
    obtain ⟨K, hK⟩ : ∃ K, L.take k ++ (⟨1, nd, (v2 : Int), ad, pt, tx, ax⟩ : Ev) :: L.drop k = K := ⟨_, rfl⟩
    rw [hK] at KA HFp HAok ⊢
    clear hK hown15 hb15 KM HE14 HX14 HRq14 HB14 hs14 HO14 u0 u1 u2 u3 u4 u5 u6 lE HRep2 HR22 hlen HUp HPs HQok
    go_wp2_with fail
    refine (unhide KA).mono ?_
    rintro e w16 ⟨j, va, rfl, hfj, hMa, hb16⟩
    have hfp := unhide HFp j hfj
    have hsz := unhide HAok j hfj
    rw [hfp] at hMa hsz ⊢
    rw [unhide HKd] at hMa hsz ⊢
    obtain ⟨ss, hss⟩ : ∃ ss, (writ (MI.nat ⟨(id : Nat), 33792, [⟨nm, (kd : Nat), 1⟩], [madeR (underP nd) (kd : Nat) ad], [], []⟩)).1 = ss := ⟨_, rfl⟩
    rw [hss] at hsz ⊢
    obtain ⟨b1, d1, b2, d2, b3, d3, b4, d4, rfl, hrq, hra, _⟩ := hMa
    simp only [List.length_cons, List.length_nil, Nat.zero_add] at *
    have HE16 := hide ((hb16.block E (blk_lt (unhide HE15))).trans (unhide HE15))
    have HX16 := hide ((hb16.block (Q + 1) (blk_lt (unhide HX15))).trans (unhide HX15))
    have HRq16 := hide (((unhide HRq15).below hb16).mono hb16.size)
    have HB16 := hide ((unhide HB15).trans (hb16.mono hs15))
    have hs16 : N ≤ w16.heap.size := by have := (unhide HB16).size; omega
    have hb17 := (Below.refl w16.heap.size w16).alloc (Nat.le_refl _) (.cells #[.int .i64 (id : Nat), .int .i64 33792, .slice b1 1 d1, .slice b2 1 d2, .slice b3 0 d3, .slice b4 0 d4] 27)
    have HA17 := hide (heap_alloc_new w16 (.cells #[.int .i64 (id : Nat), .int .i64 33792, .slice b1 1 d1, .slice b2 1 d2, .slice b3 0 d3, .slice b4 0 d4] 27))
    have HE17 := hide ((hb17.block E (blk_lt (unhide HE16))).trans (unhide HE16))
    have HX17 := hide ((hb17.block (Q + 1) (blk_lt (unhide HX16))).trans (unhide HX16))
    have HRq17 := hide (((unhide HRq16).below hb17).mono hb17.size)
    have HSq17 := hide ((hrq.below hb17).mono hb17.size)
    have HSa17 := hide ((hra.below hb17).mono hb17.size)
    have HB17 := hide ((unhide HB16).trans (hb17.mono hs16))
    have hs17 : N ≤ (w16.alloc (.cells #[.int .i64 (id : Nat), .int .i64 33792, .slice b1 1 d1, .slice b2 1 d2, .slice b3 0 d3, .slice b4 0 d4] 27)).heap.size := by have := (unhide HB17).size; omega
    have hst : (stream = false ∧ decide ((512 : Int) < (ss.size : Int)) = false) ∨ (stream = true ∧ decide ((512 : Int) < (ss.size : Int)) = false) ∨ (stream = true ∧ decide ((512 : Int) < (ss.size : Int)) = true) := by
      cases stream with
      | false =>
        have h9 := hsz (by decide)
        have h8 : ss.size ≤ 512 := h9
        exact .inl ⟨rfl, decide_eq_false (by omega)⟩
      | true =>
        by_cases q : (512 : Int) < (ss.size : Int)
        · exact .inr (.inr ⟨rfl, decide_eq_true q⟩)
        · exact .inr (.inl ⟨rfl, decide_eq_false q⟩)
    clear hfp hsz hrq hra hb16 hb17 HE15 HX15 HRq15 HB15 HE16 HX16 HRq16 HB16 hs15 hs16 KA HFp HAok hfj hss
    obtain ⟨⟨m0, m1, m2, m3, m4, m5⟩, _⟩ := cells6 (unhide HA17)
    obtain ⟨⟨x0, x1, x2, x3, x4, x5⟩, _⟩ := cells6 (show (w16.alloc (.cells #[.int .i64 (id : Nat), .int .i64 33792, .slice b1 1 d1, .slice b2 1 d2, .slice b3 0 d3, .slice b4 0 d4] 27)).heap[Q + 1]? = some (.cells #[.int .i64 (id : Nat), .int .i64 0, .slice (some ⟨Q, 0, none⟩) 1 1, .slice none 0 0, .slice none 0 0, .slice none 0 0] 27 (0, 0)) from unhide HX17)
    have lX := blk_lt (unhide HX17)
    have lA := blk_lt (unhide HA17)
    have KQ := hide (sameQuestionsK [⟨nm, (kd : Nat), 1⟩] b1 (some ⟨Q, 0, none⟩) d1 1 _ _ _ (unhide HSq17) (unhide HRq17) (by simp))
    simp only [List.length_cons, List.length_nil, Nat.zero_add] at KQ
    go_upto_region 12 with fail
    generalize w16.alloc (.cells #[.int .i64 (id : Nat), .int .i64 33792, .slice b1 1 d1, .slice b2 1 d2, .slice b3 0 d3, .slice b4 0 d4] 27) = w17 at *
    generalize w16.heap.size = Y at *
    go_cut [87] (fun v w' => v = .bool false ∧ w' = w17)
    case first =>
      rcases hst with ⟨rfl, f1⟩ | ⟨rfl, f1⟩ | ⟨rfl, f1⟩
      all_goals
        go_wp2_with fail
        go_meet
        exact ⟨rfl, rfl⟩
    case rest =>
      obtain ⟨rfl, rfl⟩ := hcut
      clear hst
      go_wp2_with fail
      refine (unhide KQ).mono ?_
      rintro e w18 ⟨rfl, n8, rfl⟩
      clear m0 m1 m2 m3 m4 m5 x0 x1 x2 x3 x4 x5 KQ
      have hb18 : Below wc.heap.size wc (wc.drewN n8) := below_drewA (Below.refl _ _) n8
      have HA18 := hide ((hb18.block Y (blk_lt (unhide HA17))).trans (unhide HA17))
      have HE18 := hide ((hb18.block E (blk_lt (unhide HE17))).trans (unhide HE17))
      have HSa18 := hide (((unhide HSa17).below hb18).mono hb18.size)
      have HB18 := hide ((unhide HB17).trans (hb18.mono hs17))
      generalize wc.drewN n8 = w18 at *
      have hs18 : N ≤ w18.heap.size := by have := (unhide HB18).size; omega
      clear hb18 HA17 HE17 HSa17 HB17 HSq17 HRq17 HX17 hs17 lX lA
      obtain ⟨⟨u0, u1, u2, u3, u4, u5, u6⟩, _⟩ := cells7 (unhide HE18)
      have lE := blk_lt (unhide HE18)
      have KH := hide (fun W => host_k nd W (by omega))
      go_upto_region 15 with fail
      go_cut [24] (fun v w' => ∃ P, v = .pointer (some ⟨P, 0, none⟩) ∧ Hid (w'.heap[P]? = some (.cells #[.string (underP nd), .int .i64 (kd : Nat), .int .i64 1, .int .i64 30, .string ad] 33 (0, 0))) ∧ Hid (Below w18.heap.size w18 w'))
      case first =>
        have lE2 : E < ((w18.alloc (.cells #[.string ⟨#[]⟩, .int .i64 0, .int .i64 0, .int .i64 0, .string ⟨#[]⟩] 33)).drew).heap.size := by show E < (w18.alloc (.cells #[.string ⟨#[]⟩, .int .i64 0, .int .i64 0, .int .i64 0, .string ⟨#[]⟩] 33)).heap.size; simp; omega
        have u32 : ((w18.alloc (.cells #[.string ⟨#[]⟩, .int .i64 0, .int .i64 0, .int .i64 0, .string ⟨#[]⟩] 33)).drew).cell? ⟨E, 3, none⟩ = some (.string ad) := (heap_alloc_cell w18 (.cells #[.string ⟨#[]⟩, .int .i64 0, .int .i64 0, .int .i64 0, .string ⟨#[]⟩] 33) lE 3).trans u3
        have lZ2 : w18.heap.size < ((w18.alloc (.cells #[.string ⟨#[]⟩, .int .i64 0, .int .i64 0, .int .i64 0, .string ⟨#[]⟩] 33)).drew).heap.size := by show w18.heap.size < (w18.alloc (.cells #[.string ⟨#[]⟩, .int .i64 0, .int .i64 0, .int .i64 0, .string ⟨#[]⟩] 33)).heap.size; simp
        have hZ19 : Below w18.heap.size w18 ((w18.alloc (.cells #[.string ⟨#[]⟩, .int .i64 0, .int .i64 0, .int .i64 0, .string ⟨#[]⟩] 33)).drew) := below_drew ((Below.refl w18.heap.size w18).alloc (Nat.le_refl _) (.cells #[.string ⟨#[]⟩, .int .i64 0, .int .i64 0, .int .i64 0, .string ⟨#[]⟩] 33))
        have hZs : w18.heap.size ≤ ((w18.alloc (.cells #[.string ⟨#[]⟩, .int .i64 0, .int .i64 0, .int .i64 0, .string ⟨#[]⟩] 33)).drew).heap.size := Nat.le_of_lt lZ2
        go_region_with (first | (go_at_call 24; refine (unhide KH w18.drew).mono ?_; rintro e w19 ⟨rfl, hb19⟩; have u3' := (hb19.cell (p := ⟨E, 3, none⟩) lE).trans u3; have lE' : E < w19.heap.size := Nat.lt_of_lt_of_le lE hb19.size) | (go_at_call 24; refine (unhide KH ((w18.alloc (.cells #[.string ⟨#[]⟩, .int .i64 0, .int .i64 0, .int .i64 0, .string ⟨#[]⟩] 33)).drew)).mono ?_; rintro e w19 ⟨rfl, hb19⟩; have u3' := (hb19.cell (p := ⟨E, 3, none⟩) lE2).trans u32; have lE' : E < w19.heap.size := Nat.lt_of_lt_of_le lE2 hb19.size; have lP' : w18.heap.size < w19.heap.size := Nat.lt_of_lt_of_le lZ2 hb19.size; obtain ⟨⟨t0, t1, t2, t3, t4⟩, s0, s1, s2, s3, s4⟩ := cells5 ((hb19.block w18.heap.size lZ2).trans (heap_alloc_new w18 (.cells #[.string ⟨#[]⟩, .int .i64 0, .int .i64 0, .int .i64 0, .string ⟨#[]⟩] 33)))))
        all_goals go_wp2_with fail
        all_goals go_meet
        all_goals first
          | (refine ⟨w18.heap.size, rfl, ?_, ?_⟩
             · exact hide (five_store ((hb19.block w18.heap.size lZ2).trans (heap_alloc_new w18 (.cells #[.string ⟨#[]⟩, .int .i64 0, .int .i64 0, .int .i64 0, .string ⟨#[]⟩] 33))) _ _ _ _ _)
             · exact hide (below_set5 (hZ19.trans (hb19.mono hZs)) (Nat.le_refl _) _ _ _ _ _))
          | (refine ⟨w19.heap.size, rfl, ?_, ?_⟩
             · exact hide (heap_alloc_new _ _)
             · exact hide ((below_undrew hb19).alloc hb19.size _))
      case rest =>
        obtain ⟨P, rfl, HP, HC⟩ := hcut
        have HA20 := hide (((unhide HC).block Y (blk_lt (unhide HA18))).trans (unhide HA18))
        have HSa20 := ((unhide HSa18).below (unhide HC)).mono (unhide HC).size
        have HB20 := hide ((unhide HB18).trans ((unhide HC).mono hs18))
        obtain ⟨⟨m0, m1, m2, m3, m4, m5⟩, _⟩ := cells6 (unhide HA20)
        obtain ⟨⟨p0, p1, p2, p3, p4⟩, _⟩ := cells5 (unhide HP)
        have lA := blk_lt (unhide HA20)
        have lP := blk_lt (unhide HP)
        obtain ⟨b, o, rfl, hb, y0, y1, y2, y3, y4⟩ := row_r HSa20 0 (by simp)
        simp only [List.getElem_cons_zero, Nat.zero_mul, Nat.add_zero] at y0 y1 y2 y3 y4
        rw [show (madeR (underP nd) (kd : Nat) ad).name = underP nd from rfl] at y0
        rw [show (madeR (underP nd) (kd : Nat) ad).ty = (kd : Nat) from rfl] at y1
        rw [show (madeR (underP nd) (kd : Nat) ad).cl = 1 from rfl] at y2
        rw [show (madeR (underP nd) (kd : Nat) ad).ttl = 30 from rfl] at y3
        rw [show (madeR (underP nd) (kd : Nat) ad).data = ad from rfl] at y4
        obtain ⟨hn0, hhn⟩ : ∃ x, underP nd = x := ⟨_, rfl⟩
        rw [hhn] at y0 p0
        have e1 := strs_eq (rfl : hn0 = hn0)
        have e2 := strs_eq (rfl : ad = ad)
        go_wp2_with fail
        go_region
        all_goals go_wp2_with fail
        all_goals go_ret
        all_goals exact ⟨rfl, below_drew (unhide HB20)⟩

end Go.Proofs.YtdhobdmhnocbgabGreat
