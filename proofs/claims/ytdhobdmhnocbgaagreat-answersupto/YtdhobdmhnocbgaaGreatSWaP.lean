/-
  Plain: the zone's records: which there are, that they are well made, how many.
-/
/-
  Plain: of few news all sets of an answer fit over a stream; what a limit leaves of them, and what the flags say of it.
-/
/-
  Plain: letters that are turned; small letters.
-/
/-
  Plain: what an answer holds first; a node that is up is found.
-/
/-
  Plain: what an answer has are the zone's records, each set whole; and the set that was asked for.
-/
/-
  Plain: the document finds the hosts by name, the program in one walk over the zone: the same sets.
-/
import Derived.Test.YtdhobdmhnocbgaaGreatSSiW
import Derived.Test.YtdhobdmhnocbgaaGreatSNwC
import Derived.Test.YtdhobdmhnocbgaaGreatSQuB
namespace Go.Proofs.YtdhobdmhnocbgaaGreat
open Go.RowKit Zr

theorem aliM_ok {up : List Ev} : ∀ {n : Nat} {e : Ev}, e ∈ aliM up (sortP (aliEs up)) n → e ∈ up ∧ e.alias ≠ ⟨#[]⟩ ∧ ¬ isUp up e.alias
  | 0, e, h => by simp [aliM] at h
  | n + 1, e, h => by
    unfold aliM at h
    split at h
    · next hn =>
      split at h
      · exact aliM_ok h
      · next hc =>
        rcases List.mem_append.1 h with h | h
        · exact aliM_ok h
        · rw [List.mem_singleton] at h
          have hn2 : ¬ isUp up (sortP (aliEs up))[n].key := fun q => hc (.inr q)
          obtain ⟨y, hy, he⟩ := List.mem_map.1 (sort_mem.1 (List.getElem_mem hn))
          rw [← he] at hn2 h
          simp only at hn2 h
          subst h
          obtain ⟨h1, h2⟩ := List.mem_filter.1 hy
          exact ⟨h1, of_decide_eq_true h2, hn2⟩
    · exact aliM_ok h

/-- The names that are told by an alias. -/
noncomputable def aliL (l : List Ev) : List Ev := aliM (upM l) (sortP (aliEs (upM l))) (sortP (aliEs (upM l))).length

/-- What a record of the zone is. -/
def inZ (l : List Ev) (x : RI) : Prop :=
  ((∃ k : Nat, x = madeR originB 6 (soaB k)) ∨ x = madeR originB 2 serverB) ∨
  (∃ u, u ∈ upM l ∧ (x = madeR (underP u.node) (kindOf u) u.addr ∨ (u.text ≠ ⟨#[]⟩ ∧ x = madeR (underP u.node) 16 (one u.text.size ++ u.text)))) ∨
  (∃ u, u ∈ upM l ∧ u.alias ≠ ⟨#[]⟩ ∧ ¬ isUp (upM l) u.alias ∧ x = cnR u) ∨
  ∃ u, u ∈ upM l ∧ x = srvR u

theorem nodeR_is {u : Ev} {x : RI} (h : x ∈ nodeR u) : x = madeR (underP u.node) (kindOf u) u.addr ∨ (u.text ≠ ⟨#[]⟩ ∧ x = madeR (underP u.node) 16 (one u.text.size ++ u.text)) := by
  unfold nodeR at h
  rcases List.mem_cons.1 h with h | h
  · exact .inl h
  · split at h
    · simp at h
    · next ht =>
      rw [List.mem_singleton] at h
      exact .inr ⟨ht, h⟩

theorem zone_mem {l : List Ev} {x : RI} (h : x ∈ recordsM l) : inZ l x := by
  unfold recordsM at h
  rcases List.mem_append.1 h with h | h
  · rcases List.mem_append.1 h with h | h
    · rcases List.mem_append.1 h with h | h
      · simp only [List.mem_cons, List.mem_nil_iff, or_false] at h
        rcases h with h | h
        · exact .inl (.inl ⟨_, h⟩)
        · exact .inl (.inr h)
      · obtain ⟨u, hu, hx⟩ := List.mem_flatMap.1 h
        exact .inr (.inl ⟨u, hu, nodeR_is hx⟩)
    · obtain ⟨u, hu, rfl⟩ := List.mem_map.1 h
      obtain ⟨h1, h2, h3⟩ := aliM_ok hu
      exact .inr (.inr (.inl ⟨u, h1, h2, h3, rfl⟩))
  · obtain ⟨u, hu, rfl⟩ := List.mem_map.1 h
    exact .inr (.inr (.inr ⟨u, hu, rfl⟩))

theorem up_good {l : List Ev} {u : Ev} (h : u ∈ upM l) : labelOk u.node ∧ aliveOk u := by
  obtain ⟨hg, hk⟩ := up_mem h
  obtain ⟨h1, _, _, h4⟩ := hg
  rcases h4 with h4 | ⟨_, h5⟩
  · rw [hk] at h4; exact absurd h4 (by decide)
  · exact ⟨h1, h5⟩

theorem rec_made {n d : ByteArray} (t : Nat) (hn : wholeB n = true) (ht : t ≤ 65535) (hd : wellD t d) : recOk (madeR n (t : Int) d) :=
  ⟨hn, ⟨by show (0 : Int) ≤ (t : Int); omega, by show (t : Int) ≤ 65535; omega⟩, ⟨by show (0 : Int) ≤ 1; decide, by show (1 : Int) ≤ 65535; decide⟩, ⟨by show (0 : Int) ≤ 30; decide, by show (30 : Int) ≤ 4294967295; decide⟩, by show wellD (t : Int).toNat d; rw [Int.toNat_natCast]; exact hd⟩

theorem server_whole : wholeB serverB = true := by kernel_rfl
theorem admin_whole : wholeB adminB = true := by kernel_rfl

theorem soa_well (k : Nat) : wellD 6 (soaB k) := by
  refine (wellD_two _).2 ⟨serverB, adminB, q4 k ++ (q4 3600 ++ (q4 600 ++ (q4 86400 ++ q4 30))), ?_, server_whole, admin_whole, ?_⟩
  · unfold soaB
    simp only [append_assoc']
  · simp only [ByteArray.size_append, q4_size]
theorem text_well (s : ByteArray) (h : s.size ≤ 60) : wellD 16 (one s.size ++ s) := by
  have hz : (one s.size ++ s).size = 1 + s.size := by rw [ByteArray.size_append]; rfl
  refine (wellD_flat _ 16 (by omega) (by omega)).2 ⟨by omega, ?_⟩
  have h1 := rowB_push ⟨#[]⟩ s s.size (by omega) rfl (by decide)
  rw [empty_append] at h1
  show ((one s.size ++ s).size != 0 && rowB (one s.size ++ s) 0 1) = true
  have h2 : rowB (one s.size ++ s) 0 1 = true := h1
  rw [h2, Bool.and_true, bne_iff_ne]
  omega
theorem srv_well (p : Nat) (s : ByteArray) (h1 : 1 ≤ s.size) (h2 : s.size ≤ 15) : wellD 33 (q4 0 ++ wd p ++ underP s) := by
  have hs1 : (q4 0 ++ wd p).size = 6 := by rw [ByteArray.size_append, q4_size, wd_size]
  have hu := under_whole h1 h2
  have hz : (q4 0 ++ wd p ++ underP s).size = 6 + (underP s).size := by rw [ByteArray.size_append, hs1]
  refine (wellD_flat _ 33 (by omega) (by omega)).2 ⟨by omega, ?_⟩
  show svcB _ = true
  rw [svc_whole _ (by omega)]
  have hx := extract_back (q4 0 ++ wd p) (underP s)
  rw [hs1] at hx
  rw [hx]
  exact hu.1

/-- A record of the zone is well made, no OPT, and short. -/
theorem zone_ok {l : List Ev} {x : RI} (h : x ∈ recordsM l) : recOk x ∧ x.ty ≠ 41 ∧ x.name.size + 10 + x.data.size ≤ 97 := by
  rcases zone_mem h with (⟨k, rfl⟩ | rfl) | ⟨u, hu, rfl | ⟨ht, rfl⟩⟩ | ⟨u, hu, ha, _, rfl⟩ | ⟨u, hu, rfl⟩
  · refine ⟨rec_made 6 origin_whole (by omega) (soa_well k), by show (6 : Int) ≠ 41; decide, ?_⟩
    show 10 + 10 + (soaB k).size ≤ 97
    unfold soaB
    simp only [ByteArray.size_append, q4_size]
    show 10 + 10 + (13 + 16 + 4 + 4 + 4 + 4 + 4) ≤ 97
    omega
  · exact ⟨rec_made 2 origin_whole (by omega) ((wellD_one _ 2 (by omega)).2 server_whole), by show (2 : Int) ≠ 41; decide, by show 10 + 10 + 13 ≤ 97; omega⟩
  · obtain ⟨hn, ha⟩ := up_good hu
    obtain ⟨u1, u2⟩ := under_whole hn.2.1 hn.2.2
    have us := under_size u.node
    have hn2 := hn.2.2
    rcases ha.2.1 with h4 | h4
    · have hk : kindOf u = ((1 : Nat) : Int) := by unfold kindOf; rw [if_neg (by omega)]; rfl
      rw [hk]
      refine ⟨rec_made 1 u1 (by omega) ((wellD_flat _ 1 (by omega) (by omega)).2 ⟨by omega, by show (u.addr.size == 4) = true; rw [h4]; rfl⟩), by show (1 : Int) ≠ 41; decide, ?_⟩
      show (underP u.node).size + 10 + u.addr.size ≤ 97
      omega
    · have hk : kindOf u = ((28 : Nat) : Int) := by unfold kindOf; rw [if_pos h4]; rfl
      rw [hk]
      refine ⟨rec_made 28 u1 (by omega) ((wellD_flat _ 28 (by omega) (by omega)).2 ⟨by omega, by show (u.addr.size == 16) = true; rw [h4]; rfl⟩), by show (28 : Int) ≠ 41; decide, ?_⟩
      show (underP u.node).size + 10 + u.addr.size ≤ 97
      omega
  · obtain ⟨hn, ha⟩ := up_good hu
    obtain ⟨u1, u2⟩ := under_whole hn.2.1 hn.2.2
    have us := under_size u.node
    have hn2 := hn.2.2
    have ht2 := ha.2.2.2.2
    refine ⟨rec_made 16 u1 (by omega) (text_well _ ht2), by show (16 : Int) ≠ 41; decide, ?_⟩
    show (underP u.node).size + 10 + (one u.text.size ++ u.text).size ≤ 97
    rw [ByteArray.size_append]
    show (underP u.node).size + 10 + (1 + u.text.size) ≤ 97
    omega
  · obtain ⟨hn, hal⟩ := up_good hu
    obtain ⟨u1, u2⟩ := under_whole hn.2.1 hn.2.2
    have hl : labelOk u.alias := by
      rcases hal.1 with q | q
      · exact absurd q ha
      · exact q
    obtain ⟨v1, v2⟩ := under_whole hl.2.1 hl.2.2
    have us := under_size u.node
    have vs := under_size u.alias
    have hn2 := hn.2.2
    have hl2 := hl.2.2
    refine ⟨rec_made 5 v1 (by omega) ((wellD_one _ 5 (by omega)).2 u1), by show (5 : Int) ≠ 41; decide, ?_⟩
    show (underP u.alias).size + 10 + (underP u.node).size ≤ 97
    omega
  · obtain ⟨hn, ha⟩ := up_good hu
    have us := under_size u.node
    have hn2 := hn.2.2
    refine ⟨rec_made 33 service_whole (by omega) (srv_well _ _ hn.2.1 hn.2.2), by show (33 : Int) ≠ 41; decide, ?_⟩
    show 21 + 10 + (q4 0 ++ wd u.port.toNat ++ underP u.node).size ≤ 97
    rw [ByteArray.size_append, ByteArray.size_append, q4_size, wd_size]
    omega

end Go.Proofs.YtdhobdmhnocbgaaGreat

namespace Go.Proofs.YtdhobdmhnocbgaaGreat
open Go.RowKit Zr

/-- Each set has all records of a name and its type. -/
def KindZ (z : List RI) (L : List ST) : Prop := ∀ s, s ∈ L → ∃ n, s.l = ofP z n s.kind ∧ s.l ≠ []
theorem KindZ.want {z : List RI} {L : List ST} (h : KindZ z L) (p : Nat) (n : ByteArray) (t : Int) : KindZ z (wantP z L p n t) := by
  intro s hs
  unfold wantP at hs
  split at hs
  · exact h s hs
  · next hne =>
    rcases List.mem_append.1 hs with q | q
    · exact h s q
    · rw [List.mem_singleton] at q
      subst q
      exact ⟨n, rfl, hne⟩
theorem KindZ.nil (z : List RI) : KindZ z [] := fun s hs => by cases hs
theorem wantTo_end (z : List RI) (n : ByteArray) (L : List ST) (j : Nat) (k : z.length ≤ j) : wantTo z n L (j + 1) = wantTo z n L j := by
  show (match z[j]? with | none => _ | some x => _ : List ST) = _
  rw [List.getElem?_eq_none k]
/-- All sets of a name. -/
def NameZ (z : List RI) (n : ByteArray) (L : List ST) : Prop := ∀ s, s ∈ L → s.l = ofP z n s.kind ∧ s.l ≠ [] ∧ s.part = 0
theorem NameZ.want {z : List RI} {n : ByteArray} {L : List ST} (h : NameZ z n L) (t : Int) : NameZ z n (wantP z L 0 n t) := by
  intro s hs
  unfold wantP at hs
  split at hs
  · exact h s hs
  · next hne =>
    rcases List.mem_append.1 hs with q | q
    · exact h s q
    · rw [List.mem_singleton] at q
      subst q
      exact ⟨rfl, hne, rfl⟩
theorem NameZ.all (z : List RI) (n : ByteArray) : ∀ j, NameZ z n (wantTo z n [] j)
  | 0 => fun s hs => by simp [wantTo] at hs
  | j + 1 => by
    have ih := NameZ.all z n j
    rcases Nat.lt_or_ge j z.length with k | k
    · rw [wantTo_step z n [] j k]
      split
      · exact ih.want _
      · exact ih
    · rw [wantTo_end z n [] j k]
      exact ih
theorem NameZ.kind {z : List RI} {n : ByteArray} {L : List ST} (h : NameZ z n L) : KindZ z L := fun s hs => ⟨n, (h s hs).1, (h s hs).2.1⟩
theorem KindZ.answ (z : List RI) (n : ByteArray) (t : Int) : KindZ z (answP z [] n t) := by
  unfold answP
  split
  · exact (NameZ.all z n _).kind
  · split
    · exact (KindZ.nil z).want _ _ _
    · exact ((KindZ.nil z).want _ _ _).want _ _ _
theorem KindZ.main (z : List RI) (n : ByteArray) (t : Int) : KindZ z (mainP z n t) := by
  unfold mainP soaP
  split
  · exact KindZ.answ z n t
  · exact (KindZ.answ z n t).want _ _ _

theorem services_none {L : List ST} (h : ∀ s, s ∈ L → s.kind ≠ 33) : servicesP L = [] := by
  unfold servicesP
  split
  · rfl
  · next s hs =>
    have h2 := List.find?_some hs
    have h2' : s.kind = 33 := by simpa using h2
    exact absurd h2' (h s (List.mem_of_find?_eq_some hs))
/-- Something but extra records is left out. -/
def CutAt (S : List ST) (c : Nat) : Prop := ∃ i, c ≤ i ∧ ∃ h : i < S.length, S[i].part ≠ 2
end Go.Proofs.YtdhobdmhnocbgaaGreat

namespace Go.Proofs.YtdhobdmhnocbgaaGreat
open Go.RowKit Zr

def Turned (c d : Nat) : Prop := d = c ∨ (97 ≤ c ∧ c ≤ 122 ∧ d + 32 = c) ∨ (65 ≤ c ∧ c ≤ 90 ∧ d = c + 32)
/-- The same but for letters that are small or great. -/
def Flips (s t : ByteArray) : Prop := t.size = s.size ∧ ∀ i, i < s.size → Turned (bt s i) (bt t i)

theorem turned_few {c d : Nat} (h : Turned c d) (hc : c ≤ 64) : d = c := by
  rcases h with h | ⟨h1, h2, h3⟩ | ⟨h1, h2, h3⟩ <;> omega

theorem one_bt (n : Nat) (h : n < 256) : bt (one n) 0 = n := by
  show (UInt8.ofNat n).toNat = _
  rw [UInt8.toNat_ofNat_of_lt' (by simpa using h)]
theorem smallTo_bt (s : ByteArray) : ∀ j, ∀ i, i < j → bt (smallTo s j) i = lowC (bt s i)
  | 0, i, h => by omega
  | j + 1, i, h => by
    show bt (smallTo s j ++ one (lowC (bt s j))) i = _
    rw [bt_append, smallTo_size]
    by_cases c : i < j
    · rw [if_pos c]; exact smallTo_bt s j i c
    · have : i = j := by omega
      subst this
      rw [if_neg (by omega), Nat.sub_self, one_bt _ (lowC_lt (bt_lt s i))]
theorem small_bt (s : ByteArray) (i : Nat) (h : i < s.size) : bt (smallP s) i = lowC (bt s i) := smallTo_bt s s.size i h

theorem low_turned (c : Nat) : Turned c (lowC c) := by
  unfold lowC
  split
  · exact .inr (.inr ⟨by omega, by omega, rfl⟩)
  · exact .inl rfl
theorem small_flips (s : ByteArray) : Flips s (smallP s) := ⟨smallP_size s, fun i hi => by rw [small_bt s i hi]; exact low_turned _⟩

theorem flips_tl {s t : ByteArray} (h : Flips s t) {k : Nat} (hk : Tl s k) : Tl t k := by
  induction hk with
  | root k h1 h2 =>
    have h3 := turned_few (h.2 k (by omega)) (by omega)
    exact .root k (by rw [h.1]; exact h1) (by rw [h3]; exact h2)
  | lab k h1 h2 h3 ih =>
    have h4 := turned_few (h.2 k (by have := h3.lt; omega)) (by omega)
    exact .lab k (by omega) (by omega) (by rw [h4]; exact ih)
end Go.Proofs.YtdhobdmhnocbgaaGreat

namespace Go.Proofs.YtdhobdmhnocbgaaGreat
open Go.RowKit Zr

/-- The zone's own record. -/
noncomputable def soaR (l : List Ev) : RI := madeR originB 6 (soaB (incP (goodL l)).toNat)
theorem zone_rest (l : List Ev) : ∃ R, recordsM l = soaR l :: madeR originB 2 serverB :: R ∧ ∀ x, x ∈ R → x.ty ≠ 6 ∧ x.ty ≠ 2 := by
  refine ⟨(upM l).flatMap nodeR ++ (aliL l).map cnR ++ (upM l).map srvR, ?_, ?_⟩
  · unfold recordsM aliL soaR
    simp only [List.append_assoc, List.cons_append, List.nil_append]
  · intro x hx
    rcases List.mem_append.1 hx with hx | hx
    · rcases List.mem_append.1 hx with hx | hx
      · obtain ⟨u, _, hx⟩ := List.mem_flatMap.1 hx
        obtain ⟨_, hk, _⟩ := nodeR_name hx
        omega
      · obtain ⟨u, _, rfl⟩ := List.mem_map.1 hx
        exact ⟨by show (5 : Int) ≠ 6; decide, by show (5 : Int) ≠ 2; decide⟩
    · obtain ⟨u, _, rfl⟩ := List.mem_map.1 hx
      exact ⟨by show (33 : Int) ≠ 6; decide, by show (33 : Int) ≠ 2; decide⟩
theorem soa_of (l : List Ev) : ofP (recordsM l) originB 6 = [soaR l] := by
  obtain ⟨R, hR, h6⟩ := zone_rest l
  unfold ofP
  have e1 : (fun x : RI => decide (x.name = originB ∧ x.ty = 6)) (soaR l) = true := decide_eq_true ⟨rfl, rfl⟩
  have e2 : ¬ (fun x : RI => decide (x.name = originB ∧ x.ty = 6)) (madeR originB 2 serverB) = true := fun h => absurd (of_decide_eq_true h).2 (by show ¬ (2 : Int) = 6; decide)
  have e3 : R.filter (fun x : RI => decide (x.name = originB ∧ x.ty = 6)) = [] := List.filter_eq_nil_iff.2 fun x hx h => (h6 x hx).1 (of_decide_eq_true h).2
  rw [hR, List.filter_cons_of_pos (p := fun x : RI => decide (x.name = originB ∧ x.ty = 6)) e1, List.filter_cons_of_neg (p := fun x : RI => decide (x.name = originB ∧ x.ty = 6)) e2, e3]
theorem soa_set (l : List Ev) (L : List ST) : soaP (recordsM l) L = L ++ [⟨1, 6, [soaR l]⟩] := by
  unfold soaP wantP
  rw [soa_of, if_neg (by simp)]

/-- A question of the class IN at or below the origin, with nothing beside it. -/
def askM (id : Int) (n : ByteArray) (t : Int) : MI := ⟨id, 0, [⟨n, t, 1⟩], [], [], []⟩
theorem of_count (z : List RI) (n : ByteArray) (t : Int) : (ofP z n t).length = havP z n t := by
  unfold ofP havP
  rw [← List.countP_eq_length_filter]

end Go.Proofs.YtdhobdmhnocbgaaGreat

namespace Go.Proofs.YtdhobdmhnocbgaaGreat
open Go.RowKit Zr

/-- Each set of the list is whole. -/
def WholeL (part z : List RI) : Prop := ∀ x, x ∈ part → ofP part x.name x.ty = ofP z x.name x.ty

theorem of_cat (A B : List RI) (n : ByteArray) (t : Int) : ofP (A ++ B) n t = ofP A n t ++ ofP B n t := by
  unfold ofP
  rw [List.filter_append]
theorem of_none {A : List RI} {n : ByteArray} {t : Int} (h : ∀ x, x ∈ A → ¬ (x.name = n ∧ x.ty = t)) : ofP A n t = [] := by
  unfold ofP
  rw [List.filter_eq_nil_iff]
  intro x hx
  rw [decide_eq_true_iff]
  exact h x hx
theorem of_mem {z : List RI} {n : ByteArray} {t : Int} {x : RI} (h : x ∈ ofP z n t) : x ∈ z ∧ x.name = n ∧ x.ty = t := by
  obtain ⟨h1, h2⟩ := List.mem_filter.1 h
  exact ⟨h1, of_decide_eq_true h2⟩

def Split2 (a b : ST) : Prop := ∀ x, x ∈ a.l → ∀ y, y ∈ b.l → ¬ (x.name = y.name ∧ x.ty = y.ty)
def Sets (z : List RI) (T : List ST) : Prop := ∀ s, s ∈ T → ∃ n t, s.l = ofP z n t

/-- The kinds of the sets of a name are all different. -/
def Kinds (L : List ST) : Prop := L.Pairwise fun a b => a.kind ≠ b.kind
theorem has_kind {L : List ST} {t : Int} (h : hasSetP L t = false) : ∀ s, s ∈ L → s.kind ≠ t := fun s hs e => by
  unfold hasSetP at h
  rw [List.any_eq_false] at h
  exact h s hs (decide_eq_true e)
theorem Kinds.want {z : List RI} {L : List ST} (h : Kinds L) (p : Nat) (n : ByteArray) (t : Int) (ht : ∀ s, s ∈ L → s.kind ≠ t) : Kinds (wantP z L p n t) := by
  unfold wantP
  split
  · exact h
  · refine List.pairwise_append.2 ⟨h, List.pairwise_singleton _ _, fun a ha b hb => ?_⟩
    rw [List.mem_singleton] at hb
    subst hb
    exact ht a ha
theorem Kinds.all (z : List RI) (n : ByteArray) : ∀ j, Kinds (wantTo z n [] j)
  | 0 => List.Pairwise.nil
  | j + 1 => by
    have ih := Kinds.all z n j
    rcases Nat.lt_or_ge j z.length with k | k
    · rw [wantTo_step z n [] j k]
      split
      · next hc => exact ih.want _ _ _ (has_kind hc.2)
      · exact ih
    · rw [wantTo_end z n [] j k]
      exact ih
theorem want_kind {z : List RI} {p : Nat} {n : ByteArray} {t : Int} : ∀ s, s ∈ wantP z [] p n t → s.kind = t := fun s hs => by
  unfold wantP at hs
  split at hs
  · simp at hs
  · rw [List.nil_append, List.mem_singleton] at hs
    subst hs
    rfl
theorem Kinds.answ (z : List RI) (n : ByteArray) (t : Int) : Kinds (answP z [] n t) := by
  unfold answP
  split
  · exact Kinds.all z n _
  · have h0 : Kinds ([] : List ST) := List.Pairwise.nil
    have h1 : Kinds (wantP z [] 0 n 5) := h0.want 0 n 5 fun s hs => by simp at hs
    split
    · exact h1
    · next hc => exact h1.want _ _ _ fun s hs => by rw [want_kind s hs]; exact fun e => hc e.symm

theorem KindZ.sets {z : List RI} {L : List ST} (h : KindZ z L) : Sets z L := fun s hs => by obtain ⟨n, hn, _⟩ := h s hs; exact ⟨n, _, hn⟩
/-- The address of a node is a set of one. -/
theorem host_set {l : List Ev} {y : RI} (hy : y ∈ recordsM l) (ht : y.ty = 1 ∨ y.ty = 28) : ofP (recordsM l) y.name y.ty = [y] ∧ ∃ u, u ∈ upM l ∧ y.name = underP u.node := by
  have hform : ∃ u, u ∈ upM l ∧ y = madeR (underP u.node) (kindOf u) u.addr := by
    rcases zone_mem hy with (⟨k, rfl⟩ | rfl) | ⟨u, hu, rfl | ⟨_, rfl⟩⟩ | ⟨u, hu, _, _, rfl⟩ | ⟨u, hu, rfl⟩
    · exact absurd ht (by show ¬ ((6 : Int) = 1 ∨ (6 : Int) = 28); decide)
    · exact absurd ht (by show ¬ ((2 : Int) = 1 ∨ (2 : Int) = 28); decide)
    · exact ⟨u, hu, rfl⟩
    · exact absurd ht (by show ¬ ((16 : Int) = 1 ∨ (16 : Int) = 28); decide)
    · exact absurd ht (by show ¬ ((5 : Int) = 1 ∨ (5 : Int) = 28); decide)
    · exact absurd ht (by show ¬ ((33 : Int) = 1 ∨ (33 : Int) = 28); decide)
  obtain ⟨u, hu, rfl⟩ := hform
  refine ⟨?_, u, hu, rfl⟩
  have he : u ∈ upP l := by rw [← up_same]; exact hu
  have hk := kind_of u
  have h1 := of_count (recordsM l) (underP u.node) (kindOf u)
  have h2 : havP (recordsM l) (underP u.node) (kindOf u) = 1 := by
    rw [records_same, hav_one he (kindOf u) (by omega), if_pos rfl]
    split
    · rfl
    · rw [if_neg (by omega)]
  rw [h2] at h1
  obtain ⟨x, hx⟩ := List.length_eq_one_iff.1 h1
  have h3 : madeR (underP u.node) (kindOf u) u.addr ∈ ofP (recordsM l) (underP u.node) (kindOf u) := List.mem_filter.2 ⟨hy, decide_eq_true ⟨rfl, rfl⟩⟩
  rw [hx, List.mem_singleton] at h3
  show ofP (recordsM l) (underP u.node) (kindOf u) = _
  rw [hx, h3]

/-- What the hosts add. -/
def HostT (z sv : List RI) (j : Nat) (t : ST) : Prop := ∃ i y, i < j ∧ t = ⟨2, y.ty, [y]⟩ ∧ y ∈ z ∧ (y.ty = 1 ∨ y.ty = 28) ∧ ∃ h : i < sv.length, y.name = targetP sv[i].data
theorem host_is {node : ByteArray} {x : RI} (h : isHostP node x = true) : x.name = node ∧ (x.ty = 1 ∨ x.ty = 28) := of_decide_eq_true h
theorem srv_target (u : Ev) : targetP (srvR u).data = underP u.node := by
  obtain ⟨h1, h2⟩ := srv_data u
  unfold targetP
  rw [if_neg (by omega)]
  exact h2
end Go.Proofs.YtdhobdmhnocbgaaGreat

namespace Go.Proofs.YtdhobdmhnocbgaaGreat
open Go.RowKit Zr

/-- The hosts of services, as the document finds them. -/
def hostD (z : List RI) (L : List ST) (sv : List RI) : List ST := sv.foldl (fun S x => wantP z (wantP z S 2 (targetP x.data) 1) 2 (targetP x.data) 28) L
def hostA (z : List RI) (L : List ST) (A : List ST) : List ST := A.foldl (fun S s => if s.kind = 33 then hostD z S s.l else S) L

theorem up_have {l : List Ev} {u : Ev} (hu : u ∈ upM l) : ofP (recordsM l) (underP u.node) (kindOf u) = [madeR (underP u.node) (kindOf u) u.addr] ∧ ∀ t, (t = 1 ∨ t = 28) → t ≠ kindOf u → ofP (recordsM l) (underP u.node) t = [] := by
  have he : u ∈ upP l := by rw [← up_same]; exact hu
  have hrec : madeR (underP u.node) (kindOf u) u.addr ∈ recordsM l := by
    unfold recordsM
    refine List.mem_append_left _ (List.mem_append_left _ (List.mem_append_right _ (List.mem_flatMap.2 ⟨u, hu, ?_⟩)))
    unfold nodeR kindOf
    exact List.mem_cons_self
  refine ⟨(host_set hrec (kind_of u)).1, fun t ht hne => ?_⟩
  have h1 := of_count (recordsM l) (underP u.node) t
  rw [records_same, hav_one he t (by omega)] at h1
  have h2 : (ofP (recordsP l) (underP u.node) t).length = 0 := by
    rw [h1, if_neg (fun h => hne h.symm)]
    split
    · rfl
    · rw [if_neg (by omega)]
  rw [records_same]
  exact List.length_eq_zero_iff.1 h2

/-- One node's host, as the document adds it. -/
theorem host_one {l : List Ev} {u : Ev} (hu : u ∈ upM l) (S : List ST) : wantP (recordsM l) (wantP (recordsM l) S 2 (underP u.node) 1) 2 (underP u.node) 28 = S ++ [⟨2, kindOf u, [madeR (underP u.node) (kindOf u) u.addr]⟩] := by
  obtain ⟨h1, h2⟩ := up_have hu
  rcases kind_of u with k | k
  · have e2 := h2 28 (by omega) (by omega)
    rw [k] at h1 ⊢
    unfold wantP
    rw [h1, e2, if_pos rfl, if_neg (by simp)]
  · have e2 := h2 1 (by omega) (by omega)
    rw [k] at h1 ⊢
    unfold wantP
    rw [h1, e2, if_neg (by simp), if_pos rfl]

theorem seek_to (z : List RI) (node : ByteArray) : ∀ d i p, p = i + d → ∀ hp : p < z.length, isHostP node z[p] = true → (∀ k (h : k < z.length), i ≤ k → k < p → isHostP node z[k] = false) → seekP z node i = p
  | 0, i, p, h, hp, hh, _ => by
    subst h
    exact seek_stop hp hh
  | d + 1, i, p, h, hp, hh, hno => by
    have hi : i < z.length := by omega
    rw [seek_go hi (hno i hi (Nat.le_refl _) (by omega))]
    exact seek_to z node d (i + 1) p (by omega) hp hh fun k hk h1 h2 => hno k hk (by omega) h2

theorem two_at {z : List RI} {p : RI → Bool} {i k : Nat} (h : i < k) (hk : k < z.length) (h1 : p z[i] = true) (h2 : p z[k] = true) : 2 ≤ z.countP p := by
  have e : z = z.take (i + 1) ++ z.drop (i + 1) := (List.take_append_drop _ _).symm
  rw [e, List.countP_append]
  have a1 : 0 < (z.take (i + 1)).countP p := List.countP_pos_iff.2 ⟨z[i], by
    rw [List.take_succ_eq_append_getElem (by omega)]
    exact List.mem_append_right _ (List.mem_singleton.2 rfl), h1⟩
  have a2 : 0 < (z.drop (i + 1)).countP p := List.countP_pos_iff.2 ⟨z[k], by
    rw [List.mem_iff_getElem]
    exact ⟨k - (i + 1), by rw [List.length_drop]; omega, by rw [List.getElem_drop]; congr 1; omega⟩, h2⟩
  omega

/-- Where a node's address stands in the zone. -/
def hostPos (up : List Ev) (j : Nat) : Nat := 2 + ((up.take j).flatMap nodeR).length
theorem pos_at (l : List Ev) (j : Nat) (h : j < (upM l).length) : ∃ hp : hostPos (upM l) j < (recordsM l).length, (recordsM l)[hostPos (upM l) j] = madeR (underP (upM l)[j].node) (kindOf (upM l)[j]) (upM l)[j].addr := by
  have e : recordsM l = ([soaR l, madeR originB 2 serverB] ++ ((upM l).take j).flatMap nodeR) ++ (madeR (underP (upM l)[j].node) (kindOf (upM l)[j]) (upM l)[j].addr :: ((nodeR (upM l)[j]).drop 1 ++ ((upM l).drop (j + 1)).flatMap nodeR ++ (aliL l).map cnR ++ (upM l).map srvR)) := by
    have h1 : (upM l).flatMap nodeR = ((upM l).take j).flatMap nodeR ++ (nodeR (upM l)[j] ++ ((upM l).drop (j + 1)).flatMap nodeR) := by
      conv => lhs; rw [← List.take_append_drop j (upM l), List.drop_eq_getElem_cons h]
      rw [List.flatMap_append, List.flatMap_cons]
    have h2 : nodeR (upM l)[j] = madeR (underP (upM l)[j].node) (kindOf (upM l)[j]) (upM l)[j].addr :: (nodeR (upM l)[j]).drop 1 := rfl
    have h0 : recordsM l = [soaR l, madeR originB 2 serverB] ++ (upM l).flatMap nodeR ++ (aliL l).map cnR ++ (upM l).map srvR := rfl
    rw [h0, h1]
    conv => lhs; rw [h2]
    simp only [List.append_assoc, List.cons_append]
  have hlen : ([soaR l, madeR originB 2 serverB] ++ ((upM l).take j).flatMap nodeR).length = hostPos (upM l) j := by
    unfold hostPos
    rw [List.length_append]
    rfl
  refine ⟨by rw [e, List.length_append, hlen, List.length_cons]; omega, ?_⟩
  rw [List.getElem_of_eq e, List.getElem_append_right (by omega)]
  simp only [hlen, Nat.sub_self, List.getElem_cons_zero]
theorem pos_next (up : List Ev) (j : Nat) (h : j < up.length) : hostPos up j ≤ hostPos up (j + 1) := by
  unfold hostPos
  rw [List.take_succ_eq_append_getElem h, List.flatMap_append, List.length_append]
  omega

theorem srv_all (l : List Ev) (n : ByteArray) : ofP (recordsM l) n 33 = [] ∨ ofP (recordsM l) n 33 = (upM l).map srvR := by
  have e : ofP (recordsM l) n 33 = ofP ((upM l).map srvR) n 33 := by
    have h0 : recordsM l = ([soaR l, madeR originB 2 serverB] ++ (upM l).flatMap nodeR ++ (aliL l).map cnR) ++ (upM l).map srvR := rfl
    rw [h0, of_cat, of_none (A := [soaR l, madeR originB 2 serverB] ++ (upM l).flatMap nodeR ++ (aliL l).map cnR), List.nil_append]
    intro x hx h
    rcases List.mem_append.1 hx with hx | hx
    · rcases List.mem_append.1 hx with hx | hx
      · simp only [List.mem_cons, List.mem_nil_iff, or_false] at hx
        rcases hx with rfl | rfl
        · exact absurd h.2 (by show ¬ (6 : Int) = 33; decide)
        · exact absurd h.2 (by show ¬ (2 : Int) = 33; decide)
      · obtain ⟨u, _, hx⟩ := List.mem_flatMap.1 hx
        obtain ⟨_, hk, _⟩ := nodeR_name hx
        omega
    · obtain ⟨u, _, rfl⟩ := List.mem_map.1 hx
      exact absurd h.2 (by show ¬ (5 : Int) = 33; decide)
  rw [e]
  by_cases c : n = serviceB
  · refine .inr (List.filter_eq_self.2 fun x hx => ?_)
    obtain ⟨u, _, rfl⟩ := List.mem_map.1 hx
    exact decide_eq_true ⟨c.symm, rfl⟩
  · refine .inl (of_none fun x hx h => ?_)
    obtain ⟨u, _, rfl⟩ := List.mem_map.1 hx
    exact c h.1.symm

/-- The program's walk over the zone finds what the document finds. -/
theorem hosts_step_eq (l : List Ev) (S : List ST) : ∀ j, j ≤ (upM l).length → (hostsTo (recordsM l) ((upM l).map srvR) S j).2 = hostD (recordsM l) S (((upM l).map srvR).take j) ∧ ((hostsTo (recordsM l) ((upM l).map srvR) S j).1 ≤ hostPos (upM l) j)
  | 0, _ => ⟨rfl, Nat.zero_le _⟩
  | j + 1, hj => by
    obtain ⟨i1, i2⟩ := hosts_step_eq l S j (by omega)
    have hlen : j < ((upM l).map srvR).length := by rw [List.length_map]; omega
    have hju : j < (upM l).length := by omega
    obtain ⟨s1, _⟩ := hosts_step (recordsM l) ((upM l).map srvR) S j hlen
    have hx : ((upM l).map srvR)[j] = srvR (upM l)[j] := List.getElem_map ..
    obtain ⟨hp, hz⟩ := pos_at l j hju
    have hmem : (upM l)[j] ∈ upM l := List.getElem_mem hju
    have hhost : isHostP (underP (upM l)[j].node) (recordsM l)[hostPos (upM l) j] = true := by
      rw [hz]
      exact decide_eq_true ⟨rfl, kind_of _⟩
    have hno : ∀ k (h : k < (recordsM l).length), (hostsTo (recordsM l) ((upM l).map srvR) S j).1 ≤ k → k < hostPos (upM l) j → isHostP (underP (upM l)[j].node) (recordsM l)[k] = false := fun k hk _ hkp => by
      cases hq : isHostP (underP (upM l)[j].node) (recordsM l)[k] with
      | false => rfl
      | true =>
        obtain ⟨q1, q2⟩ := host_is hq
        obtain ⟨g1, g2⟩ := up_have hmem
        have hty : (recordsM l)[k].ty = kindOf (upM l)[j] := by
          by_cases c : (recordsM l)[k].ty = kindOf (upM l)[j]
          · exact c
          · have h9 := g2 _ q2 c
            have h8 : (recordsM l)[k] ∈ ofP (recordsM l) (underP (upM l)[j].node) (recordsM l)[k].ty := List.mem_filter.2 ⟨List.getElem_mem hk, decide_eq_true ⟨q1, rfl⟩⟩
            rw [h9] at h8
            simp at h8
        have h2 := two_at (p := fun x : RI => decide (x.name = underP (upM l)[j].node ∧ x.ty = kindOf (upM l)[j])) hkp hp (decide_eq_true ⟨q1, hty⟩) (by rw [hz]; exact decide_eq_true ⟨rfl, rfl⟩)
        have h3 : (recordsM l).countP (fun x : RI => decide (x.name = underP (upM l)[j].node ∧ x.ty = kindOf (upM l)[j])) = 1 := by
          have h4 := congrArg List.length g1
          unfold ofP at h4
          rw [← List.countP_eq_length_filter] at h4
          exact h4
        omega
    have hseek : seekP (recordsM l) (targetP ((upM l).map srvR)[j].data) (hostsTo (recordsM l) ((upM l).map srvR) S j).1 = hostPos (upM l) j := by
      rw [hx, srv_target]
      exact seek_to _ _ (hostPos (upM l) j - (hostsTo (recordsM l) ((upM l).map srvR) S j).1) _ _ (by omega) hp hhost hno
    have hlt : seekP (recordsM l) (targetP ((upM l).map srvR)[j].data) (hostsTo (recordsM l) ((upM l).map srvR) S j).1 < (recordsM l).length := by rw [hseek]; exact hp
    rw [s1 hlt]
    simp only [hseek]
    refine ⟨?_, pos_next _ j hju⟩
    have ht : hostD (recordsM l) S (((upM l).map srvR).take (j + 1)) = wantP (recordsM l) (wantP (recordsM l) (hostD (recordsM l) S (((upM l).map srvR).take j)) 2 (underP (upM l)[j].node) 1) 2 (underP (upM l)[j].node) 28 := by
      unfold hostD
      rw [List.take_succ_eq_append_getElem hlen, List.foldl_append, hx]
      simp only [List.foldl_cons, List.foldl_nil, srv_target]
    rw [ht, host_one hmem, i1, hz]
    rfl

theorem hostD_eq (l : List Ev) (S : List ST) (n : ByteArray) : hostD (recordsM l) S (ofP (recordsM l) n 33) = (hostsTo (recordsM l) (ofP (recordsM l) n 33) S (ofP (recordsM l) n 33).length).2 := by
  rcases srv_all l n with h | h
  · rw [h]; rfl
  · rw [h]
    have h1 := (hosts_step_eq l S (upM l).length (Nat.le_refl _)).1
    have h2 : ((upM l).map srvR).take (upM l).length = (upM l).map srvR := by
      rw [List.take_of_length_le (by rw [List.length_map]; omega)]
    rw [h2] at h1
    rw [List.length_map]
    exact h1.symm

theorem hostA_none (z : List RI) : ∀ (A : List ST) (S : List ST), (∀ s, s ∈ A → s.kind ≠ 33) → hostA z S A = S
  | [], _, _ => rfl
  | s :: A, S, h => by
    unfold hostA
    rw [List.foldl_cons, if_neg (h s (by simp))]
    exact hostA_none z A S fun x hx => h x (by simp [hx])

/-- The sets that are wanted, as the document finds them. -/
theorem sets_doc (l : List Ev) (n : ByteArray) (t : Int) (hh : hasP (recordsM l) n = true) : setsP (recordsM l) n t = hostA (recordsM l) (mainP (recordsM l) n t) (answP (recordsM l) [] n t) := by
  unfold setsP
  rw [hh, if_pos rfl]
  unfold hostsP
  have hsv : servicesP (mainP (recordsM l) n t) = servicesP (answP (recordsM l) [] n t) := by
    unfold mainP
    split
    · rfl
    · rw [soa_set]
      unfold servicesP
      rw [List.find?_append]
      cases hf : (answP (recordsM l) [] n t).find? fun s => decide (s.kind = 33) with
      | none => rfl
      | some s => rfl
  rw [hsv]
  cases hf : (answP (recordsM l) [] n t).find? fun s => decide (s.kind = 33) with
  | none =>
    have hn : ∀ s, s ∈ answP (recordsM l) [] n t → s.kind ≠ 33 := fun s hs e => by
      have := List.find?_eq_none.1 hf s hs
      exact this (decide_eq_true e)
    rw [hostA_none _ _ _ hn, services_none hn]
    rfl
  | some s =>
    have hm := List.mem_of_find?_eq_some hf
    have hk : s.kind = 33 := by have := List.find?_some hf; simpa using this
    have hse : servicesP (answP (recordsM l) [] n t) = s.l := by unfold servicesP; rw [hf]
    obtain ⟨m, hm2, _⟩ := KindZ.answ (recordsM l) n t s hm
    rw [hk] at hm2
    obtain ⟨A, B, hAB⟩ := List.append_of_mem hm
    have hkn := Kinds.answ (recordsM l) n t
    rw [hAB] at hkn
    obtain ⟨_, hk2, hk3⟩ := List.pairwise_append.1 hkn
    obtain ⟨hk4, _⟩ := List.pairwise_cons.1 hk2
    have hA : hostA (recordsM l) (mainP (recordsM l) n t) (answP (recordsM l) [] n t) = hostD (recordsM l) (mainP (recordsM l) n t) s.l := by
      rw [hAB]
      unfold hostA
      rw [List.foldl_append, List.foldl_cons]
      have e1 := hostA_none (recordsM l) A (mainP (recordsM l) n t) (fun x hx e => hk3 x hx s (by simp) (by rw [e, hk]))
      unfold hostA at e1
      rw [e1, if_pos hk]
      exact hostA_none (recordsM l) B _ (fun x hx e => hk4 x hx (by rw [e, hk]))
    rw [hA, hse, hm2]
    exact (hostD_eq l _ m).symm

end Go.Proofs.YtdhobdmhnocbgaaGreat
