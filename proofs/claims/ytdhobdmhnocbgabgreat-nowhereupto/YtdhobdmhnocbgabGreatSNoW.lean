/-
  Plain: the zone's records: which there are, that they are well made, how many.
-/
/-
  Plain: of few news all sets of an answer fit over a stream; what a limit leaves of them, and what the flags say of it.
-/
/-
  Plain: letters that are turned; small letters.
-/
/-
  Plain: what an answer holds first; a node that is up is found.
-/
/-
  Walks over zonekeep: small letters; a name below another; letters turned.
-/
/-
  Walks over zonekeep: Nowhere.
-/
import Derived.Test.YtdhobdmhnocbgabGreatSFiP
import Derived.Test.YtdhobdmhnocbgabGreatSNwH
import Derived.Test.YtdhobdmhnocbgabGreatSQuB
import Derived.Test.YtdhobdmhnocbgabGreatSAnF
import Derived.Test.YtdhobdmhnocbgabGreatSQuD
namespace Go.Proofs.YtdhobdmhnocbgabGreat
open Go.RowKit Zr

theorem aliM_ok {up : List Ev} : ∀ {n : Nat} {e : Ev}, e ∈ aliM up (sortP (aliEs up)) n → e ∈ up ∧ e.alias ≠ ⟨#[]⟩ ∧ ¬ isUp up e.alias
  | 0, e, h => by simp [aliM] at h
  | n + 1, e, h => by
    unfold aliM at h
    split at h
    · next hn =>
      split at h
      · exact aliM_ok h
      · next hc =>
        rcases List.mem_append.1 h with h | h
        · exact aliM_ok h
        · rw [List.mem_singleton] at h
          have hn2 : ¬ isUp up (sortP (aliEs up))[n].key := fun q => hc (.inr q)
          obtain ⟨y, hy, he⟩ := List.mem_map.1 (sort_mem.1 (List.getElem_mem hn))
          rw [← he] at hn2 h
          simp only at hn2 h
          subst h
          obtain ⟨h1, h2⟩ := List.mem_filter.1 hy
          exact ⟨h1, of_decide_eq_true h2, hn2⟩
    · exact aliM_ok h

/-- The names that are told by an alias. -/
noncomputable def aliL (l : List Ev) : List Ev := aliM (upM l) (sortP (aliEs (upM l))) (sortP (aliEs (upM l))).length

/-- What a record of the zone is. -/
def inZ (l : List Ev) (x : RI) : Prop :=
  ((∃ k : Nat, x = madeR originB 6 (soaB k)) ∨ x = madeR originB 2 serverB) ∨
  (∃ u, u ∈ upM l ∧ (x = madeR (underP u.node) (kindOf u) u.addr ∨ (u.text ≠ ⟨#[]⟩ ∧ x = madeR (underP u.node) 16 (one u.text.size ++ u.text)))) ∨
  (∃ u, u ∈ upM l ∧ u.alias ≠ ⟨#[]⟩ ∧ ¬ isUp (upM l) u.alias ∧ x = cnR u) ∨
  ∃ u, u ∈ upM l ∧ x = srvR u

theorem nodeR_is {u : Ev} {x : RI} (h : x ∈ nodeR u) : x = madeR (underP u.node) (kindOf u) u.addr ∨ (u.text ≠ ⟨#[]⟩ ∧ x = madeR (underP u.node) 16 (one u.text.size ++ u.text)) := by
  unfold nodeR at h
  rcases List.mem_cons.1 h with h | h
  · exact .inl h
  · split at h
    · simp at h
    · next ht =>
      rw [List.mem_singleton] at h
      exact .inr ⟨ht, h⟩

theorem zone_mem {l : List Ev} {x : RI} (h : x ∈ recordsM l) : inZ l x := by
  unfold recordsM at h
  rcases List.mem_append.1 h with h | h
  · rcases List.mem_append.1 h with h | h
    · rcases List.mem_append.1 h with h | h
      · simp only [List.mem_cons, List.mem_nil_iff, or_false] at h
        rcases h with h | h
        · exact .inl (.inl ⟨_, h⟩)
        · exact .inl (.inr h)
      · obtain ⟨u, hu, hx⟩ := List.mem_flatMap.1 h
        exact .inr (.inl ⟨u, hu, nodeR_is hx⟩)
    · obtain ⟨u, hu, rfl⟩ := List.mem_map.1 h
      obtain ⟨h1, h2, h3⟩ := aliM_ok hu
      exact .inr (.inr (.inl ⟨u, h1, h2, h3, rfl⟩))
  · obtain ⟨u, hu, rfl⟩ := List.mem_map.1 h
    exact .inr (.inr (.inr ⟨u, hu, rfl⟩))

theorem up_good {l : List Ev} {u : Ev} (h : u ∈ upM l) : labelOk u.node ∧ aliveOk u := by
  obtain ⟨hg, hk⟩ := up_mem h
  obtain ⟨h1, _, _, h4⟩ := hg
  rcases h4 with h4 | ⟨_, h5⟩
  · rw [hk] at h4; exact absurd h4 (by decide)
  · exact ⟨h1, h5⟩

theorem rec_made {n d : ByteArray} (t : Nat) (hn : wholeB n = true) (ht : t ≤ 65535) (hd : wellD t d) : recOk (madeR n (t : Int) d) :=
  ⟨hn, ⟨by show (0 : Int) ≤ (t : Int); omega, by show (t : Int) ≤ 65535; omega⟩, ⟨by show (0 : Int) ≤ 1; decide, by show (1 : Int) ≤ 65535; decide⟩, ⟨by show (0 : Int) ≤ 30; decide, by show (30 : Int) ≤ 4294967295; decide⟩, by show wellD (t : Int).toNat d; rw [Int.toNat_natCast]; exact hd⟩

theorem server_whole : wholeB serverB = true := by kernel_rfl
theorem admin_whole : wholeB adminB = true := by kernel_rfl

theorem soa_well (k : Nat) : wellD 6 (soaB k) := by
  refine (wellD_two _).2 ⟨serverB, adminB, q4 k ++ (q4 3600 ++ (q4 600 ++ (q4 86400 ++ q4 30))), ?_, server_whole, admin_whole, ?_⟩
  · unfold soaB
    simp only [append_assoc']
  · simp only [ByteArray.size_append, q4_size]
theorem text_well (s : ByteArray) (h : s.size ≤ 60) : wellD 16 (one s.size ++ s) := by
  have hz : (one s.size ++ s).size = 1 + s.size := by rw [ByteArray.size_append]; rfl
  refine (wellD_flat _ 16 (by omega) (by omega)).2 ⟨by omega, ?_⟩
  have h1 := rowB_push ⟨#[]⟩ s s.size (by omega) rfl (by decide)
  rw [empty_append] at h1
  show ((one s.size ++ s).size != 0 && rowB (one s.size ++ s) 0 1) = true
  have h2 : rowB (one s.size ++ s) 0 1 = true := h1
  rw [h2, Bool.and_true, bne_iff_ne]
  omega
theorem srv_well (p : Nat) (s : ByteArray) (h1 : 1 ≤ s.size) (h2 : s.size ≤ 15) : wellD 33 (q4 0 ++ wd p ++ underP s) := by
  have hs1 : (q4 0 ++ wd p).size = 6 := by rw [ByteArray.size_append, q4_size, wd_size]
  have hu := under_whole h1 h2
  have hz : (q4 0 ++ wd p ++ underP s).size = 6 + (underP s).size := by rw [ByteArray.size_append, hs1]
  refine (wellD_flat _ 33 (by omega) (by omega)).2 ⟨by omega, ?_⟩
  show svcB _ = true
  rw [svc_whole _ (by omega)]
  have hx := extract_back (q4 0 ++ wd p) (underP s)
  rw [hs1] at hx
  rw [hx]
  exact hu.1

/-- A record of the zone is well made, no OPT, and short. -/
theorem zone_ok {l : List Ev} {x : RI} (h : x ∈ recordsM l) : recOk x ∧ x.ty ≠ 41 ∧ x.name.size + 10 + x.data.size ≤ 97 := by
  rcases zone_mem h with (⟨k, rfl⟩ | rfl) | ⟨u, hu, rfl | ⟨ht, rfl⟩⟩ | ⟨u, hu, ha, _, rfl⟩ | ⟨u, hu, rfl⟩
  · refine ⟨rec_made 6 origin_whole (by omega) (soa_well k), by show (6 : Int) ≠ 41; decide, ?_⟩
    show 10 + 10 + (soaB k).size ≤ 97
    unfold soaB
    simp only [ByteArray.size_append, q4_size]
    show 10 + 10 + (13 + 16 + 4 + 4 + 4 + 4 + 4) ≤ 97
    omega
  · exact ⟨rec_made 2 origin_whole (by omega) ((wellD_one _ 2 (by omega)).2 server_whole), by show (2 : Int) ≠ 41; decide, by show 10 + 10 + 13 ≤ 97; omega⟩
  · obtain ⟨hn, ha⟩ := up_good hu
    obtain ⟨u1, u2⟩ := under_whole hn.2.1 hn.2.2
    have us := under_size u.node
    have hn2 := hn.2.2
    rcases ha.2.1 with h4 | h4
    · have hk : kindOf u = ((1 : Nat) : Int) := by unfold kindOf; rw [if_neg (by omega)]; rfl
      rw [hk]
      refine ⟨rec_made 1 u1 (by omega) ((wellD_flat _ 1 (by omega) (by omega)).2 ⟨by omega, by show (u.addr.size == 4) = true; rw [h4]; rfl⟩), by show (1 : Int) ≠ 41; decide, ?_⟩
      show (underP u.node).size + 10 + u.addr.size ≤ 97
      omega
    · have hk : kindOf u = ((28 : Nat) : Int) := by unfold kindOf; rw [if_pos h4]; rfl
      rw [hk]
      refine ⟨rec_made 28 u1 (by omega) ((wellD_flat _ 28 (by omega) (by omega)).2 ⟨by omega, by show (u.addr.size == 16) = true; rw [h4]; rfl⟩), by show (28 : Int) ≠ 41; decide, ?_⟩
      show (underP u.node).size + 10 + u.addr.size ≤ 97
      omega
  · obtain ⟨hn, ha⟩ := up_good hu
    obtain ⟨u1, u2⟩ := under_whole hn.2.1 hn.2.2
    have us := under_size u.node
    have hn2 := hn.2.2
    have ht2 := ha.2.2.2.2
    refine ⟨rec_made 16 u1 (by omega) (text_well _ ht2), by show (16 : Int) ≠ 41; decide, ?_⟩
    show (underP u.node).size + 10 + (one u.text.size ++ u.text).size ≤ 97
    rw [ByteArray.size_append]
    show (underP u.node).size + 10 + (1 + u.text.size) ≤ 97
    omega
  · obtain ⟨hn, hal⟩ := up_good hu
    obtain ⟨u1, u2⟩ := under_whole hn.2.1 hn.2.2
    have hl : labelOk u.alias := by
      rcases hal.1 with q | q
      · exact absurd q ha
      · exact q
    obtain ⟨v1, v2⟩ := under_whole hl.2.1 hl.2.2
    have us := under_size u.node
    have vs := under_size u.alias
    have hn2 := hn.2.2
    have hl2 := hl.2.2
    refine ⟨rec_made 5 v1 (by omega) ((wellD_one _ 5 (by omega)).2 u1), by show (5 : Int) ≠ 41; decide, ?_⟩
    show (underP u.alias).size + 10 + (underP u.node).size ≤ 97
    omega
  · obtain ⟨hn, ha⟩ := up_good hu
    have us := under_size u.node
    have hn2 := hn.2.2
    refine ⟨rec_made 33 service_whole (by omega) (srv_well _ _ hn.2.1 hn.2.2), by show (33 : Int) ≠ 41; decide, ?_⟩
    show 21 + 10 + (q4 0 ++ wd u.port.toNat ++ underP u.node).size ≤ 97
    rw [ByteArray.size_append, ByteArray.size_append, q4_size, wd_size]
    omega

end Go.Proofs.YtdhobdmhnocbgabGreat

namespace Go.Proofs.YtdhobdmhnocbgabGreat
open Go.RowKit Zr

/-- Each set has all records of a name and its type. -/
def KindZ (z : List RI) (L : List ST) : Prop := ∀ s, s ∈ L → ∃ n, s.l = ofP z n s.kind ∧ s.l ≠ []
theorem KindZ.want {z : List RI} {L : List ST} (h : KindZ z L) (p : Nat) (n : ByteArray) (t : Int) : KindZ z (wantP z L p n t) := by
  intro s hs
  unfold wantP at hs
  split at hs
  · exact h s hs
  · next hne =>
    rcases List.mem_append.1 hs with q | q
    · exact h s q
    · rw [List.mem_singleton] at q
      subst q
      exact ⟨n, rfl, hne⟩
theorem KindZ.nil (z : List RI) : KindZ z [] := fun s hs => by cases hs
theorem wantTo_end (z : List RI) (n : ByteArray) (L : List ST) (j : Nat) (k : z.length ≤ j) : wantTo z n L (j + 1) = wantTo z n L j := by
  show (match z[j]? with | none => _ | some x => _ : List ST) = _
  rw [List.getElem?_eq_none k]
/-- All sets of a name. -/
def NameZ (z : List RI) (n : ByteArray) (L : List ST) : Prop := ∀ s, s ∈ L → s.l = ofP z n s.kind ∧ s.l ≠ [] ∧ s.part = 0
theorem NameZ.want {z : List RI} {n : ByteArray} {L : List ST} (h : NameZ z n L) (t : Int) : NameZ z n (wantP z L 0 n t) := by
  intro s hs
  unfold wantP at hs
  split at hs
  · exact h s hs
  · next hne =>
    rcases List.mem_append.1 hs with q | q
    · exact h s q
    · rw [List.mem_singleton] at q
      subst q
      exact ⟨rfl, hne, rfl⟩
theorem NameZ.all (z : List RI) (n : ByteArray) : ∀ j, NameZ z n (wantTo z n [] j)
  | 0 => fun s hs => by simp [wantTo] at hs
  | j + 1 => by
    have ih := NameZ.all z n j
    rcases Nat.lt_or_ge j z.length with k | k
    · rw [wantTo_step z n [] j k]
      split
      · exact ih.want _
      · exact ih
    · rw [wantTo_end z n [] j k]
      exact ih
theorem NameZ.kind {z : List RI} {n : ByteArray} {L : List ST} (h : NameZ z n L) : KindZ z L := fun s hs => ⟨n, (h s hs).1, (h s hs).2.1⟩
theorem KindZ.answ (z : List RI) (n : ByteArray) (t : Int) : KindZ z (answP z [] n t) := by
  unfold answP
  split
  · exact (NameZ.all z n _).kind
  · split
    · exact (KindZ.nil z).want _ _ _
    · exact ((KindZ.nil z).want _ _ _).want _ _ _
theorem KindZ.main (z : List RI) (n : ByteArray) (t : Int) : KindZ z (mainP z n t) := by
  unfold mainP soaP
  split
  · exact KindZ.answ z n t
  · exact (KindZ.answ z n t).want _ _ _

/-- Something but extra records is left out. -/
def CutAt (S : List ST) (c : Nat) : Prop := ∃ i, c ≤ i ∧ ∃ h : i < S.length, S[i].part ≠ 2
theorem flag_to (S : List ST) (c f : Nat) : ∀ j, j ≤ S.length → ((∃ i, c ≤ i ∧ i < j ∧ ∃ h : i < S.length, S[i].part ≠ 2) → flagTo S c f j = f ||| 512) ∧ ((¬ ∃ i, c ≤ i ∧ i < j ∧ ∃ h : i < S.length, S[i].part ≠ 2) → flagTo S c f j = f)
  | 0, _ => ⟨fun ⟨i, _, h, _⟩ => by omega, fun _ => rfl⟩
  | j + 1, hj => by
    obtain ⟨h1, h2⟩ := flag_to S c f j (by omega)
    rw [cut_step S c f j (by omega)]
    by_cases q : c ≤ j ∧ S[j].part ≠ 2
    · rw [if_pos q]
      refine ⟨fun _ => ?_, fun h => absurd ⟨j, q.1, by omega, by omega, q.2⟩ h⟩
      by_cases r : ∃ i, c ≤ i ∧ i < j ∧ ∃ h : i < S.length, S[i].part ≠ 2
      · rw [h1 r, Nat.or_assoc]
        rfl
      · rw [h2 r]
    · rw [if_neg q]
      have hh : (∃ i, c ≤ i ∧ i < j + 1 ∧ ∃ h : i < S.length, S[i].part ≠ 2) → ∃ i, c ≤ i ∧ i < j ∧ ∃ h : i < S.length, S[i].part ≠ 2 := fun ⟨i, a, b, h, d⟩ => by
        rcases Nat.lt_or_ge i j with k | k
        · exact ⟨i, a, k, h, d⟩
        · have : i = j := by omega
          subst this
          exact absurd ⟨a, d⟩ q
      exact ⟨fun h => h1 (hh h), fun h => h2 fun ⟨i, a, b, r⟩ => h ⟨i, a, by omega, r⟩⟩
theorem flag_cut (S : List ST) (c f : Nat) : (CutAt S c → flagTo S c f S.length = f ||| 512) ∧ (¬ CutAt S c → flagTo S c f S.length = f) := by
  obtain ⟨h1, h2⟩ := flag_to S c f S.length (Nat.le_refl _)
  exact ⟨fun ⟨i, a, h, d⟩ => h1 ⟨i, a, h, h, d⟩, fun h => h2 fun ⟨i, a, _, r⟩ => h ⟨i, a, r⟩⟩
end Go.Proofs.YtdhobdmhnocbgabGreat

namespace Go.Proofs.YtdhobdmhnocbgabGreat
open Go.RowKit Zr

def Turned (c d : Nat) : Prop := d = c ∨ (97 ≤ c ∧ c ≤ 122 ∧ d + 32 = c) ∨ (65 ≤ c ∧ c ≤ 90 ∧ d = c + 32)
/-- The same but for letters that are small or great. -/
def Flips (s t : ByteArray) : Prop := t.size = s.size ∧ ∀ i, i < s.size → Turned (bt s i) (bt t i)

theorem turned_few {c d : Nat} (h : Turned c d) (hc : c ≤ 64) : d = c := by
  rcases h with h | ⟨h1, h2, h3⟩ | ⟨h1, h2, h3⟩ <;> omega

theorem one_bt (n : Nat) (h : n < 256) : bt (one n) 0 = n := by
  show (UInt8.ofNat n).toNat = _
  rw [UInt8.toNat_ofNat_of_lt' (by simpa using h)]
theorem smallTo_bt (s : ByteArray) : ∀ j, ∀ i, i < j → bt (smallTo s j) i = lowC (bt s i)
  | 0, i, h => by omega
  | j + 1, i, h => by
    show bt (smallTo s j ++ one (lowC (bt s j))) i = _
    rw [bt_append, smallTo_size]
    by_cases c : i < j
    · rw [if_pos c]; exact smallTo_bt s j i c
    · have : i = j := by omega
      subst this
      rw [if_neg (by omega), Nat.sub_self, one_bt _ (lowC_lt (bt_lt s i))]
theorem small_bt (s : ByteArray) (i : Nat) (h : i < s.size) : bt (smallP s) i = lowC (bt s i) := smallTo_bt s s.size i h

theorem low_turned (c : Nat) : Turned c (lowC c) := by
  unfold lowC
  split
  · exact .inr (.inr ⟨by omega, by omega, rfl⟩)
  · exact .inl rfl
theorem small_flips (s : ByteArray) : Flips s (smallP s) := ⟨smallP_size s, fun i hi => by rw [small_bt s i hi]; exact low_turned _⟩

theorem flips_tl {s t : ByteArray} (h : Flips s t) {k : Nat} (hk : Tl s k) : Tl t k := by
  induction hk with
  | root k h1 h2 =>
    have h3 := turned_few (h.2 k (by omega)) (by omega)
    exact .root k (by rw [h.1]; exact h1) (by rw [h3]; exact h2)
  | lab k h1 h2 h3 ih =>
    have h4 := turned_few (h.2 k (by have := h3.lt; omega)) (by omega)
    exact .lab k (by omega) (by omega) (by rw [h4]; exact ih)
theorem origin_low : ∀ i, i < 10 → lowC (bt originB i) = bt originB i := by decide
/-- A name stands in itself; the origin in what is under it. -/
theorem within_self (n : ByteArray) (h : 0 < n.size) : withinAt n n 0 = true := by
  rw [withinAt, dif_pos h, if_pos (extract_all n)]
theorem origin_small : smallP originB = originB := by
  refine bt_ext (smallP_size _) fun i hi => ?_
  rw [smallP_size] at hi
  rw [small_bt _ i hi]
  exact origin_low i hi

end Go.Proofs.YtdhobdmhnocbgabGreat

namespace Go.Proofs.YtdhobdmhnocbgabGreat
open Go.RowKit Zr

/-- The zone's own record. -/
noncomputable def soaR (l : List Ev) : RI := madeR originB 6 (soaB (incP (goodL l)).toNat)
theorem zone_rest (l : List Ev) : ∃ R, recordsM l = soaR l :: madeR originB 2 serverB :: R ∧ ∀ x, x ∈ R → x.ty ≠ 6 ∧ x.ty ≠ 2 := by
  refine ⟨(upM l).flatMap nodeR ++ (aliL l).map cnR ++ (upM l).map srvR, ?_, ?_⟩
  · unfold recordsM aliL soaR
    simp only [List.append_assoc, List.cons_append, List.nil_append]
  · intro x hx
    rcases List.mem_append.1 hx with hx | hx
    · rcases List.mem_append.1 hx with hx | hx
      · obtain ⟨u, _, hx⟩ := List.mem_flatMap.1 hx
        obtain ⟨_, hk, _⟩ := nodeR_name hx
        omega
      · obtain ⟨u, _, rfl⟩ := List.mem_map.1 hx
        exact ⟨by show (5 : Int) ≠ 6; decide, by show (5 : Int) ≠ 2; decide⟩
    · obtain ⟨u, _, rfl⟩ := List.mem_map.1 hx
      exact ⟨by show (33 : Int) ≠ 6; decide, by show (33 : Int) ≠ 2; decide⟩
theorem soa_of (l : List Ev) : ofP (recordsM l) originB 6 = [soaR l] := by
  obtain ⟨R, hR, h6⟩ := zone_rest l
  unfold ofP
  have e1 : (fun x : RI => decide (x.name = originB ∧ x.ty = 6)) (soaR l) = true := decide_eq_true ⟨rfl, rfl⟩
  have e2 : ¬ (fun x : RI => decide (x.name = originB ∧ x.ty = 6)) (madeR originB 2 serverB) = true := fun h => absurd (of_decide_eq_true h).2 (by show ¬ (2 : Int) = 6; decide)
  have e3 : R.filter (fun x : RI => decide (x.name = originB ∧ x.ty = 6)) = [] := List.filter_eq_nil_iff.2 fun x hx h => (h6 x hx).1 (of_decide_eq_true h).2
  rw [hR, List.filter_cons_of_pos (p := fun x : RI => decide (x.name = originB ∧ x.ty = 6)) e1, List.filter_cons_of_neg (p := fun x : RI => decide (x.name = originB ∧ x.ty = 6)) e2, e3]
theorem soa_set (l : List Ev) (L : List ST) : soaP (recordsM l) L = L ++ [⟨1, 6, [soaR l]⟩] := by
  unfold soaP wantP
  rw [soa_of, if_neg (by simp)]

theorem hosts_pre (z sv : List RI) (L : List ST) : ∀ j, j ≤ sv.length → ∃ T, (hostsTo z sv L j).2 = L ++ T
  | 0, _ => ⟨[], by simp [hostsTo]⟩
  | j + 1, hj => by
    obtain ⟨T, hT⟩ := hosts_pre z sv L j (by omega)
    obtain ⟨s1, s2⟩ := hosts_step z sv L j (by omega)
    rcases Nat.lt_or_ge (seekP z (targetP sv[j].data) (hostsTo z sv L j).1) z.length with k | k
    · rw [s1 k]
      simp only
      rw [hT]
      exact ⟨_, List.append_assoc _ _ _⟩
    · rw [s2 k]
      exact ⟨T, hT⟩
theorem hosts_none (z : List RI) (L : List ST) (h : servicesP L = []) : hostsP z L = L := by
  unfold hostsP
  rw [h]
  rfl

/-- What stands first in an answer. -/
theorem sets_first (l : List Ev) (n : ByteArray) (t : Int) : ∃ s S, setsP (recordsM l) n t = s :: S ∧ ((s.part = 0 ∧ s.l ≠ []) ∨ (s = ⟨1, 6, [soaR l]⟩ ∧ S = [])) := by
  unfold setsP
  split
  · cases hA : answP (recordsM l) [] n t with
    | nil =>
      have hm : mainP (recordsM l) n t = [⟨1, 6, [soaR l]⟩] := by
        unfold mainP
        rw [hA]
        have : answersP [] t = false := by unfold answersP; split <;> rfl
        rw [this, soa_set]
        rfl
      refine ⟨⟨1, 6, [soaR l]⟩, [], ?_, .inr ⟨rfl, rfl⟩⟩
      rw [hm]
      exact hosts_none _ _ rfl
    | cons s A =>
      have hmem : s ∈ answP (recordsM l) [] n t := by rw [hA]; simp
      have h1 : s.part = 0 := by have := (parted_answ (recordsM l) n t).2 s hmem; omega
      obtain ⟨_, _, h2⟩ := KindZ.answ (recordsM l) n t s hmem
      have hm : ∃ M, mainP (recordsM l) n t = s :: M := by
        unfold mainP
        rw [hA]
        split
        · exact ⟨A, rfl⟩
        · rw [soa_set]; exact ⟨_, rfl⟩
      obtain ⟨M, hM⟩ := hm
      obtain ⟨T, hT⟩ := hosts_pre (recordsM l) (servicesP (mainP (recordsM l) n t)) (mainP (recordsM l) n t) _ (Nat.le_refl _)
      refine ⟨s, M ++ T, ?_, .inl ⟨h1, h2⟩⟩
      unfold hostsP
      rw [hT, hM]
      rfl
  · exact ⟨_, [], by rw [soa_set]; rfl, .inr ⟨rfl, rfl⟩⟩

/-- A question of the class IN at or below the origin, with nothing beside it. -/
def askM (id : Int) (n : ByteArray) (t : Int) : MI := ⟨id, 0, [⟨n, t, 1⟩], [], [], []⟩
theorem ask_ok {id : Int} {n : ByteArray} {t : Int} (h1 : wordOk id) (h2 : wholeB n = true) (h3 : wordOk t) : msgOk (askM id n t) := by
  refine ⟨h1, ⟨by show (0 : Int) ≤ 0; decide, by show (0 : Int) ≤ 65535; decide⟩, ⟨by show 1 ≤ 65535; omega, fun i hi => ?_⟩, ⟨by show 0 ≤ 65535; omega, fun i hi => by simp [askM] at hi⟩, ⟨by show 0 ≤ 65535; omega, fun i hi => by simp [askM] at hi⟩, ⟨by show 0 ≤ 65535; omega, fun i hi => by simp [askM] at hi⟩⟩
  have : i = 0 := by simp [askM] at hi; omega
  subst this
  exact ⟨h2, h3, ⟨by show (0 : Int) ≤ 1; decide, by show (1 : Int) ≤ 65535; decide⟩⟩
theorem ask_size {id : Int} {n : ByteArray} {t : Int} (h1 : wordOk id) (h2 : wholeB n = true) (h3 : wordOk t) : (writ (askM id n t).nat).1.size ≤ 512 := by
  refine Nat.le_trans (writ_le _ (ask_ok h1 h2 h3)) ?_
  have := (whole_pos h2).2
  show 12 + n.size + 4 + 0 + 0 + 0 ≤ 512
  omega
theorem ask_take (id : Nat) (i : Int) (n : ByteArray) (t : Int) (l : List Ev) (stream : Bool) (hw : withinAt (smallP n) originB 0 = true) : takeP id 32768 (askM i n t) l stream = ⟨id, 33792, toldP (recordsM l) (smallP n), [⟨n, t, 1⟩], false, setsP (recordsM l) (smallP n) t, limP 0 stream⟩ := by
  unfold takeP askM
  simp only
  have hr : refusalP (0 : Int).toNat (lifeP []) (⟨n, t, 1⟩ : QI) = 0 := by
    unfold refusalP
    have e1 : (0 : Int).toNat &&& 30720 = 0 := rfl
    have e2 : lifeP [] = 0 := rfl
    rw [e1, e2, if_neg (by simp), if_neg (by simp), if_neg]
    rintro (h | h)
    · exact h rfl
    · rw [hw] at h; cases h
  rw [if_pos hr]
  rfl

/-- What an answer to it says of a name that is nowhere. -/
theorem nowhere_p (id : Nat) (n : ByteArray) (t : Int) (l : List Ev) (lim c : Nat) (q : List QI) :
    ∃ f : Nat, (repMsg ⟨id, 33792, toldP (recordsM l) n, q, false, setsP (recordsM l) n t, lim⟩ c).flags = (f : Int) ∧ f % 16 = toldP (recordsM l) n ∧ f &&& 1024 = 1024 ∧ f < 65536 ∧
      ((repMsg ⟨id, 33792, toldP (recordsM l) n, q, false, setsP (recordsM l) n t, lim⟩ c).a ≠ [] ∨ f &&& 512 = 512 ∨ (repMsg ⟨id, 33792, toldP (recordsM l) n, q, false, setsP (recordsM l) n t, lim⟩ c).u = [soaR l]) := by
  obtain ⟨s, S, hS, hs⟩ := sets_first l n t
  have ht : toldP (recordsM l) n = 0 ∨ toldP (recordsM l) n = 3 := by unfold toldP; split <;> simp
  obtain ⟨f1, f2⟩ := flag_cut (setsP (recordsM l) n t) c (33792 ||| toldP (recordsM l) n % 16)
  have hcase : (CutAt (setsP (recordsM l) n t) c) ∨ (¬ CutAt (setsP (recordsM l) n t) c ∧ 1 ≤ c) := by
    by_cases k : CutAt (setsP (recordsM l) n t) c
    · exact .inl k
    · refine .inr ⟨k, ?_⟩
      rcases Nat.eq_zero_or_pos c with c0 | c0
      · refine absurd ⟨0, by omega, by rw [hS]; simp, ?_⟩ k
        simp only [hS, List.getElem_cons_zero]
        rcases hs with ⟨h, _⟩ | ⟨rfl, _⟩
        · omega
        · show ¬ (1 : Nat) = 2; decide
      · exact c0
  rcases hcase with k | ⟨k, hc⟩
  · refine ⟨_, rfl, ?_⟩
    show flagTo (setsP (recordsM l) n t) c (33792 ||| toldP (recordsM l) n % 16) (setsP (recordsM l) n t).length % 16 = _ ∧ flagTo (setsP (recordsM l) n t) c (33792 ||| toldP (recordsM l) n % 16) (setsP (recordsM l) n t).length &&& 1024 = 1024 ∧ flagTo (setsP (recordsM l) n t) c (33792 ||| toldP (recordsM l) n % 16) (setsP (recordsM l) n t).length < 65536 ∧ (_ ∨ flagTo (setsP (recordsM l) n t) c (33792 ||| toldP (recordsM l) n % 16) (setsP (recordsM l) n t).length &&& 512 = 512 ∨ _)
    rw [f1 k]
    rcases ht with h | h <;> rw [h] <;> exact ⟨by decide, by decide, by decide, .inr (.inl (by decide))⟩
  · refine ⟨_, rfl, ?_⟩
    show flagTo (setsP (recordsM l) n t) c (33792 ||| toldP (recordsM l) n % 16) (setsP (recordsM l) n t).length % 16 = _ ∧ flagTo (setsP (recordsM l) n t) c (33792 ||| toldP (recordsM l) n % 16) (setsP (recordsM l) n t).length &&& 1024 = 1024 ∧ flagTo (setsP (recordsM l) n t) c (33792 ||| toldP (recordsM l) n % 16) (setsP (recordsM l) n t).length < 65536 ∧ (partP ((setsP (recordsM l) n t).take c) 0 ≠ [] ∨ _ ∨ partP ((setsP (recordsM l) n t).take c) 1 = [soaR l])
    have hlast : partP ((setsP (recordsM l) n t).take c) 0 ≠ [] ∨ partP ((setsP (recordsM l) n t).take c) 1 = [soaR l] := by
      rw [hS]
      obtain ⟨d, rfl⟩ : ∃ d, c = d + 1 := ⟨c - 1, by omega⟩
      rw [List.take_succ_cons]
      rcases hs with ⟨h0, h1⟩ | ⟨rfl, rfl⟩
      · refine .inl fun e => h1 ?_
        unfold partP at e
        rw [List.filter_cons_of_pos (p := fun s : ST => decide (s.part = 0)) (decide_eq_true h0), List.flatMap_cons] at e
        exact (List.append_eq_nil_iff.1 e).1
      · exact .inr (by rw [List.take_nil]; rfl)
    rw [f2 k]
    have h3 : partP ((setsP (recordsM l) n t).take c) 0 ≠ [] ∨ (33792 ||| toldP (recordsM l) n % 16) &&& 512 = 512 ∨ partP ((setsP (recordsM l) n t).take c) 1 = [soaR l] := by
      rcases hlast with h | h
      · exact .inl h
      · exact .inr (.inr h)
    rcases ht with h | h <;> rw [h] at h3 ⊢ <;> exact ⟨by decide, by decide, by decide, h3⟩

end Go.Proofs.YtdhobdmhnocbgabGreat

namespace Go.Proofs.YtdhobdmhnocbgabGreat
open Go.RowKit Zr

set_option maxRecDepth 100000 in
set_option maxHeartbeats 2000000 in
theorem small_k (s : ByteArray) (w : World) (hs : s.size ≤ 4294967296) :
    Calls Tryz.prog 13 #[.string s] w fun e w' => e = .returned (.string (smallP s)) ∧ Below w.heap.size w w' := by
  obtain ⟨i0, hi, hz0, hz1, hz2⟩ := info_parts Tryz.info5
  have Hi := hide hi
  have Hz0 := hide hz0
  have Hz1 := hide hz1
  have Hz2 := hide hz2
  clear hi hz0 hz1 hz2
  obtain ⟨N, hN⟩ : ∃ N, w.heap.size = N := ⟨_, rfl⟩
  rw [hN]
  go_enter Tryz.func13, Tryz.ntmps13
  go_wp2_with fail
  go_loopg [3, 4] (s.size + 1) (fun g vb vi w' => ∃ (j : Nat) (ab : Option Addr) (cb : Nat), vi = .int .i64 j ∧ j ≤ s.size ∧ g = s.size + 1 - j ∧ vb = .slice ab j cb ∧ Hid (w'.ownsRow N 5 1 (.slice ab j cb) j (byteCells (smallTo s j))) ∧ Hid (Below N w w') ∧ N ≤ w'.heap.size)
  case atStart => exact ⟨0, none, 0, rfl, Nat.zero_le _, rfl, rfl, hide (World.ownsRow_nil _ _ _ _), hide (Below.refl _ _), by omega⟩
  case round =>
    obtain ⟨j, ab, cb, rfl, hj, rfl, rfl, HO, HB, hNw⟩ := hrel
    by_cases cj : j < s.size
    · have hg := bt_get s j cj
      have hlt := bt_lt s j
      have hT : smallTo s (j + 1) = smallTo s j ++ one (lowC (bt s j)) := rfl
      have HT := hide hT
      clear hT
      have hcase : (bt s j < 65 ∧ lowC (bt s j) = bt s j) ∨ (90 < bt s j ∧ lowC (bt s j) = bt s j) ∨ (65 ≤ bt s j ∧ bt s j ≤ 90 ∧ lowC (bt s j) = bt s j + 32) := by
        unfold lowC
        by_cases c1 : bt s j < 65
        · exact .inl ⟨c1, if_neg (by omega)⟩
        · by_cases c2 : 90 < bt s j
          · exact .inr (.inl ⟨c2, if_neg (by omega)⟩)
          · exact .inr (.inr ⟨by omega, by omega, if_pos (by omega)⟩)
      generalize bt s j = c at *
      generalize smallTo s j = B at *
      rcases hcase with ⟨c1, hc⟩ | ⟨c1, hc⟩ | ⟨c1, c2, hc⟩
      all_goals
        rw [hc] at HT
        clear hc
      · go_wp2_with (at_builtin; refine wpList_append_row _ rfl _ _ 70 70 rfl N 5 i0 (.int .u8 0) 1 1 Tryz.underlying70 (unhide Hi) (unhide Hz0) (unhide Hz1) (unhide Hz2) rfl (.slice ab j cb) j (byteCells B) (by rfl) ((unhide HO).alloc _) (.slice (some ⟨wr.heap.size, 0, none⟩) 1 1) 1 [.int .u8 (c : Nat)] (by rfl) (Src.ofSlice _ Tryz.underlying70 ⟨wr.heap.size, 0, none⟩ 1 1 _ rfl (an_cell1 _ _ _ _ rfl) (fun x hx => by simp at hx; rcases hx with rfl <;> rfl)) (by unfold maxLen; omega) (by omega) (by simp; omega) ?_; intro a1 e1 w2 hown2 hgrow2 hat2)
        go_roundg (s.size + 1 - (j + 1))
        case measure => omega
        case rel =>
          refine ⟨j + 1, a1, e1, by go_num, by omega, rfl, rfl, ?_, hide (((unhide HB).alloc hNw _).trans (below_append ((unhide HO).alloc _) hgrow2 (by simp; omega))), ?_⟩
          · rw [unhide HT, byteCells_append, one_cells _ (by omega)]; exact hide hown2
          · have := hgrow2.size; simp at this; omega
      · go_wp2_with (at_builtin; refine wpList_append_row _ rfl _ _ 70 70 rfl N 5 i0 (.int .u8 0) 1 1 Tryz.underlying70 (unhide Hi) (unhide Hz0) (unhide Hz1) (unhide Hz2) rfl (.slice ab j cb) j (byteCells B) (by rfl) ((unhide HO).alloc _) (.slice (some ⟨wr.heap.size, 0, none⟩) 1 1) 1 [.int .u8 (c : Nat)] (by rfl) (Src.ofSlice _ Tryz.underlying70 ⟨wr.heap.size, 0, none⟩ 1 1 _ rfl (an_cell1 _ _ _ _ rfl) (fun x hx => by simp at hx; rcases hx with rfl <;> rfl)) (by unfold maxLen; omega) (by omega) (by simp; omega) ?_; intro a1 e1 w2 hown2 hgrow2 hat2)
        go_roundg (s.size + 1 - (j + 1))
        case measure => omega
        case rel =>
          refine ⟨j + 1, a1, e1, by go_num, by omega, rfl, rfl, ?_, hide (((unhide HB).alloc hNw _).trans (below_append ((unhide HO).alloc _) hgrow2 (by simp; omega))), ?_⟩
          · rw [unhide HT, byteCells_append, one_cells _ (by omega)]; exact hide hown2
          · have := hgrow2.size; simp at this; omega
      · go_wp2_with (at_builtin; refine wpList_append_row _ rfl _ _ 70 70 rfl N 5 i0 (.int .u8 0) 1 1 Tryz.underlying70 (unhide Hi) (unhide Hz0) (unhide Hz1) (unhide Hz2) rfl (.slice ab j cb) j (byteCells B) (by rfl) ((unhide HO).alloc _) (.slice (some ⟨wr.heap.size, 0, none⟩) 1 1) 1 [.int .u8 ((c : Int) + 97 - 65)] (by rfl) (Src.ofSlice _ Tryz.underlying70 ⟨wr.heap.size, 0, none⟩ 1 1 _ rfl (an_cell1 _ _ _ _ rfl) (fun x hx => by simp at hx; rcases hx with rfl <;> rfl)) (by unfold maxLen; omega) (by omega) (by simp; omega) ?_; intro a1 e1 w2 hown2 hgrow2 hat2)
        go_roundg (s.size + 1 - (j + 1))
        case measure => omega
        case rel =>
          refine ⟨j + 1, a1, e1, by go_num, by omega, rfl, rfl, ?_, hide (((unhide HB).alloc hNw _).trans (below_append ((unhide HO).alloc _) hgrow2 (by simp; omega))), ?_⟩
          · have e3 : ((c : Int) + 97 - 65) = ((c + 32 : Nat) : Int) := by omega
            rw [e3] at hown2
            rw [unhide HT, byteCells_append, one_cells _ (by omega)]; exact hide hown2
          · have := hgrow2.size; simp at this; omega
    · have ej : j = s.size := by omega
      subst ej
      have eB : (smallP s).size = s.size := smallP_size s
      have hP : smallTo s s.size = smallP s := rfl
      have ho := unhide HO
      rw [hP, ← eB] at ho
      obtain ⟨B, hB⟩ : ∃ B, smallP s = B := ⟨_, rfl⟩
      rw [hB] at ho eB
      go_wp2_with fail
      rw [← eB]
      rw [run_bytes_row _ 70 9 5 Tryz.underlying70 Tryz.underlying5 Tryz.underlying9 N _ B ho]
      clear ho
      go_wp2_with fail
      go_ret
      exact ⟨by rw [hB]; rfl, unhide HB⟩

set_option maxRecDepth 100000 in
set_option maxHeartbeats 2000000 in
theorem below_k (n o : ByteArray) (w : World) (hs : n.size ≤ 4294967296) (ht : Tl n 0) :
    Calls Tryz.prog 17 #[.string n, .string o] w fun e w' => e = .returned (.bool (withinAt n o 0)) ∧ w' = w := by
  have HU : Hid (∀ i, i < n.size → withinAt n o i = if n.extract i n.size = o then true else withinAt n o (i + 1 + bt n i)) := fun i hi => by rw [withinAt, dif_pos hi]
  have HE : Hid (∀ i, ¬ i < n.size → withinAt n o i = false) := fun i hi => by rw [withinAt, dif_neg hi]
  obtain ⟨res, hres⟩ : ∃ r, withinAt n o 0 = r := ⟨_, rfl⟩
  rw [hres]
  go_enter Tryz.func17, Tryz.ntmps17
  go_wp2_with fail
  go_loop [5] (fun i => ∃ j : Nat, j < n.size ∧ i = .int .i64 j ∧ Hid (withinAt n o j = res) ∧ Hid (Tl n j)) (fun i => n.size + 256 - (intOf i).toNat)
  case atStart => exact ⟨0, ht.lt, rfl, hide hres, hide ht⟩
  case round =>
    obtain ⟨j, hj, rfl, HW, HT⟩ := hrel
    have hu := unhide HU j hj
    rw [unhide HW] at hu
    have hg := bt_get n j hj
    have hlt := bt_lt n j
    by_cases c0 : bt n j = 0
    · have hend : j + 1 = n.size := by
        cases unhide HT with
        | root k h1 h2 => exact h1
        | lab k h1 h2 h3 => omega
      rw [c0, unhide HE (j + 1 + 0) (by omega)] at hu
      by_cases ce : n.extract j n.size = o
      · rw [if_pos ce] at hu
        have f1 := strs_eq ce
        clear ce
        subst hu
        clear HU HE HW HT hres
        generalize bt n j = c at *
        subst c0
        go_wp2_with fail
        go_ret
        exact ⟨rfl, rfl⟩
      · rw [if_neg ce] at hu
        have f1 := strs_ne ce
        clear ce
        subst hu
        clear HU HE HW HT hres
        generalize bt n j = c at *
        subst c0
        go_wp2_with fail
        go_ret
        exact ⟨rfl, rfl⟩
    · have hnext : Tl n (j + 1 + bt n j) := by
        cases unhide HT with
        | root k h1 h2 => exact absurd h2 c0
        | lab k h1 h2 h3 => exact h3
      have hnl := hnext.lt
      by_cases ce : n.extract j n.size = o
      · rw [if_pos ce] at hu
        have f1 := strs_eq ce
        clear ce
        subst hu
        clear HU HE HW HT hres hnext
        generalize bt n j = c at *
        go_wp2_with fail
        go_ret
        exact ⟨rfl, rfl⟩
      · rw [if_neg ce] at hu
        have f1 := strs_ne ce
        have HN := hide hu.symm
        have HT2 := hide hnext
        clear ce hu hres HW HU HE HT hnext
        generalize bt n j = c at *
        go_wp2_with fail
        go_round
        case rel => exact ⟨j + 1 + c, by omega, by go_num, HN, HT2⟩
        case measure => simp [intOf]; omega

end Go.Proofs.YtdhobdmhnocbgabGreat

namespace Go.Proofs.YtdhobdmhnocbgabGreat
open Go.RowKit Zr

/-- A message of one question, in memory. -/
theorem ask_at {w : World} {Q : Nat} {id : Int} {n : ByteArray} {t : Int} (hQ : w.heap[Q]? = some (.cells #[.string n, .int .i64 t, .int .i64 1] 39 (0, 0))) (hn : n.size ≤ 255) :
    MsgAt w w.heap.size (.agg #[.int .i64 id, .int .i64 0, .slice (some ⟨Q, 0, none⟩) 1 1, .slice none 0 0, .slice none 0 0, .slice none 0 0]) (askM id n t) := by
  refine ⟨some ⟨Q, 0, none⟩, 1, none, 0, none, 0, none, 0, rfl, fun _ => ⟨Q, 0, rfl, blk_lt hQ, fun j u hu => ?_⟩, fun q => absurd rfl q, fun q => absurd rfl q, fun q => absurd rfl q, fun i hi => ?_, fun i hi => by simp [askM] at hi, fun i hi => by simp [askM] at hi, fun i hi => by simp [askM] at hi, Nat.le_refl _, Nat.le_refl _, Nat.le_refl _, Nat.le_refl _⟩
  · obtain ⟨⟨x0, x1, x2⟩, _⟩ := cells3 hQ
    have hu' : ([.string n, .int .i64 t, .int .i64 1] : List Value)[j]? = some u := hu
    match j with
    | 0 => cases hu'; exact x0
    | 1 => cases hu'; exact x1
    | 2 => cases hu'; exact x2
    | j + 3 => simp at hu'
  · have : i = 0 := by simp [askM] at hi; omega
    subst this
    show n.size ≤ _
    omega

/-- The reply to a question of that kind. -/
theorem ask_rep (l : List Ev) (id : Nat) (n : ByteArray) (t : Nat) (stream : Bool) (hid : id < 65536) (hn : wholeB n = true) (ht : t < 65536) (hw : withinAt (smallP n) originB 0 = true) :
    repP l (writ (askM id n t).nat).1 stream = ⟨id, 33792, toldP (recordsM l) (smallP n), [⟨n, t, 1⟩], false, setsP (recordsM l) (smallP n) t, limP 0 stream⟩ ∧ ¬ Mute (writ (askM id n t).nat).1 ∧ (writ (askM id n t).nat).1.size ≤ 65535 ∧ msgOk (askM id n t) := by
  have h1 : wordOk (id : Int) := ⟨by omega, by omega⟩
  have h3 : wordOk (t : Int) := ⟨by omega, by omega⟩
  have hok := ask_ok h1 hn h3
  have hsz := ask_size h1 hn h3
  have hz : (writ (askM id n t).nat).1.size ≤ 65535 := by omega
  refine ⟨?_, not_mute _ hok hz (by show (0 : Int) < 32768; decide), hz, hok⟩
  rw [rep_of l _ stream hok hz]
  have e1 : (askM (id : Int) n t).id.toNat = id := Int.toNat_natCast id
  have e2 : 32768 ||| ((askM (id : Int) n t).flags.toNat &&& 30976) = 32768 := by show 32768 ||| ((0 : Int).toNat &&& 30976) = 32768; rfl
  rw [e1, e2]
  exact ask_take id (id : Int) n t l stream hw

theorem zone_lenP (l : List Ev) (hl : l.length ≤ 1048576) : (recordsP l).length ≤ 140737488355328 := by
  have := zone_len l
  rw [records_same] at this
  omega
theorem any_take (z : List RI) (p : RI → Bool) (j : Nat) (h : j < z.length) : (z.take (j + 1)).any p = ((z.take j).any p || p z[j]) := by
  rw [List.take_succ_eq_append_getElem h, List.any_append]
  simp

set_option maxRecDepth 100000 in
set_option maxHeartbeats 4000000 in
theorem nowhere_k (l : List Ev) (al : Option Addr) (cl : Nat) (a : Option Addr) (n c : Nat) (stream : Bool) (w : World) (hE : RowAt w w.heap.size al (evC l)) (hl : l.length ≤ 1048576) (hz : EvSized l) (hraw : RawAt w w.heap.size a n) (hn : n ≤ 9223372036854775807) :
    Calls Tryz.prog 4 #[.slice al l.length cl, .slice a n c, .bool stream] w fun e w' => e = .returned (.bool true) ∧ Below w.heap.size w w' := by
  have hRo := ro_begin (c := c) hraw (Nat.le_refl _) hn
  have hB1 := (Below.refl w.heap.size w).alloc (Nat.le_refl _) (.cells #[.slice a n c, .int .i64 0, .slice none 0 0] 45)
  have KN := hide (next_any w.heap.size w.heap.size a n c [] 65536 65536 _ hRo (by omega) (by omega) rfl)
  have HRo1 := hide hRo
  have HB1 := hide hB1
  have HE := hide hE
  have HZ := hide hz
  have hls : l.length ≤ 16777216 := by omega
  have HRK : Hid (∀ W, Below w.heap.size w W → RowK w.heap.size W al l) := fun W hW => ⟨w.heap.size, fun V hV => hE.below (hW.trans (hV.below hW.size))⟩
  clear hRo hB1 hE hz hraw
  go_enter Tryz.func4, Tryz.ntmps4
  go_wp2_with fail
  generalize w.alloc (.cells #[.slice a n c, .int .i64 0, .slice none 0 0] 45) = w1 at *
  refine (unhide KN).mono ?_
  rintro e w2 ⟨⟨id, hid, rfl⟩, hR2, hg2⟩
  have hF2 := (unhide HRo1).next hg2
  have hB2 := (unhide HB1).trans (hF2.below (unhide HB1).size)
  have hb3 := (Below.refl w2.heap.size w2).alloc (Nat.le_refl _) (.cells #[.int .i64 (id : Nat), .int .i64 0, .slice none 0 0, .slice none 0 0, .slice none 0 0, .slice none 0 0] 27)
  have HX3 := hide (heap_alloc_new w2 (.cells #[.int .i64 (id : Nat), .int .i64 0, .slice none 0 0, .slice none 0 0, .slice none 0 0, .slice none 0 0] 27))
  have HR3 := hide (hR2.below hb3)
  have HB3 := hide (hB2.trans (hb3.mono hB2.size))
  have hXs0 := hB2.size
  clear hR2 hg2 hF2 hB2 hb3 KN HRo1 HB1
  go_wp2_with fail
  generalize w2.alloc (.cells #[.int .i64 (id : Nat), .int .i64 0, .slice none 0 0, .slice none 0 0, .slice none 0 0, .slice none 0 0] 27) = w3 at *
  have HXs : w.heap.size ≤ w2.heap.size := hXs0
  clear hXs0
  generalize w2.heap.size = X at *
  refine (wanted_k w.heap.size w.heap.size a n c [] l al cl w3 (unhide HR3) (by simp) (unhide HRK _ (unhide HB3)) hls (unhide HZ)).mono ?_
  rintro e w4 ⟨s, K', hs, rfl, hR4, hK4, hF4⟩
  have HX4 := hide (hF4.kind _ _ _ _ (unhide HX3) (by decide) (by decide) (by decide))
  have HB4 := hide ((unhide HB3).trans (hF4.below (unhide HB3).size))
  have HR4 := hide hR4
  have hsl := whole_pos hs
  have HS := hide hs
  clear hR4 hF4 HX3 HR3 HB3 hs hK4
  go_wp2_with fail
  refine (small_k s w4 (by omega)).mono ?_
  rintro e w5 ⟨rfl, hb5⟩
  have HX5 := hide ((hb5.block X (blk_lt (unhide HX4))).trans (unhide HX4))
  have HB5 := hide ((unhide HB4).trans (hb5.mono (unhide HB4).size))
  have HR5 := hide ((unhide HR4).below hb5)
  have hsn := smallP_size s
  have HT := hide (flips_tl (small_flips s) ((whole_iff s).1 (unhide HS)).1)
  have hpick : ∃ nn, Hid (wholeB nn = true) ∧ Hid (withinAt (smallP nn) originB 0 = true) ∧ ((withinAt (smallP s) originB 0 = true ∧ nn = s) ∨ (withinAt (smallP s) originB 0 = false ∧ nn = originB)) := by
    cases hw : withinAt (smallP s) originB 0 with
    | true => exact ⟨s, HS, hide hw, .inl ⟨rfl, rfl⟩⟩
    | false => exact ⟨originB, hide origin_whole, hide (by rw [origin_small]; exact within_self _ (by decide)), .inr ⟨rfl, rfl⟩⟩
  obtain ⟨nn, HN1, HN2, hnn⟩ := hpick
  obtain ⟨sn, hsn2⟩ : ∃ sn, smallP s = sn := ⟨_, rfl⟩
  rw [hsn2] at hsn HT hnn ⊢
  clear hb5 HX4 HB4 HR4 hsn2
  have kb := below_k sn originB w5 (by omega) (unhide HT)
  obtain ⟨bi, hbi⟩ : ∃ bi, withinAt sn originB 0 = bi := ⟨_, rfl⟩
  rw [hbi] at kb hnn
  clear hbi
  have KB := hide kb
  clear kb HT
  unfold originB at KB
  go_wp2_with fail
  refine (unhide KB).mono ?_
  rintro e w6 ⟨rfl, rfl⟩
  clear KB
  go_upto_if 35 with fail
  go_cut [9] (fun v w' => v = .string nn ∧ w' = w6)
  case first =>
    rcases hnn with ⟨rfl, rfl⟩ | ⟨rfl, rfl⟩
    · go_wp2_with fail
      go_meet
      exact ⟨rfl, rfl⟩
    · go_wp2_with fail
      go_meet
      exact ⟨rfl, rfl⟩
  case rest =>
    obtain ⟨rfl, rfl⟩ := hcut
    clear hnn
    go_wp2_with fail
    refine (kind_k w.heap.size w.heap.size a n c K' wc (unhide HR5)).mono ?_
    rintro e w7 ⟨⟨t, ht, rfl⟩, hR7, hF7⟩
    have hX7 := hF7.kind _ _ _ _ (unhide HX5) (by decide) (by decide) (by decide)
    have hB7 := (unhide HB5).trans (hF7.below (unhide HB5).size)
    have hXs : w.heap.size ≤ X := HXs
    have hXl := blk_lt hX7
    have hsz8 : (w7.setCell ⟨X, 2, none⟩ (.slice (some ⟨w7.heap.size, 0, none⟩) 1 1)).heap.size = w7.heap.size := size_set _ _ _
    have hX8 := blk_set hX7 2 (.slice (some ⟨w7.heap.size, 0, none⟩) 1 1)
    have hb9 := (Below.refl (w7.setCell ⟨X, 2, none⟩ (.slice (some ⟨w7.heap.size, 0, none⟩) 1 1)).heap.size (w7.setCell ⟨X, 2, none⟩ (.slice (some ⟨w7.heap.size, 0, none⟩) 1 1))).alloc (Nat.le_refl _) (.cells #[.string nn, .int .i64 (t : Nat), .int .i64 1] 39)
    have hX9 := (hb9.block X (by omega)).trans hX8
    have hQ9 := heap_alloc_new (w7.setCell ⟨X, 2, none⟩ (.slice (some ⟨w7.heap.size, 0, none⟩) 1 1)) (.cells #[.string nn, .int .i64 (t : Nat), .int .i64 1] 39)
    rw [hsz8] at hQ9
    have hB8 := hB7.setCell (p := ⟨X, 2, none⟩) hXs (.slice (some ⟨w7.heap.size, 0, none⟩) 1 1)
    have hB9 := hB8.trans (hb9.mono hB8.size)
    have hM9 := ask_at (id := (id : Nat)) hQ9 (whole_pos (unhide HN1)).2
    have HX9 := hide hX9
    have HB9 := hide hB9
    have HM9 := hide hM9
    obtain ⟨⟨z0, z1, z2, z3, z4, z5⟩, v0, v1, v2, v3, v4, v5⟩ := cells6 hX7
    clear hR7 hF7 hX7 hB7 hX8 hb9 hX9 hQ9 hB8 hB9 hM9 HX5 HB5 HR5
    go_upto_region 8 with fail
    clear z0 z1 z2 z3 z4 z5 v0 v1 v2 v3 v4 v5 hXl hsz8
    generalize (w7.setCell ⟨X, 2, none⟩ (.slice (some ⟨w7.heap.size, 0, none⟩) 1 1)).alloc (.cells #[.string nn, .int .i64 (t : Nat), .int .i64 1] 39) = w9 at *
    generalize w7.heap.size = Q at *
    have hX9' : w9.heap[X]? = some (.cells #[.int .i64 (id : Nat), .int .i64 0, .slice (some ⟨Q, 0, none⟩) 1 1, .slice none 0 0, .slice none 0 0, .slice none 0 0] 27 (0, 0)) := unhide HX9
    obtain ⟨⟨x0, x1, x2, x3, x4, x5⟩, _⟩ := cells6 hX9'
    have lX := blk_lt hX9'
    clear HX9
    obtain ⟨r1, r2, r3, r4⟩ := ask_rep l id nn t stream hid (unhide HN1) ht (unhide HN2)
    have KS := hide (zoneSerialize_any (askM (id : Nat) nn (t : Nat)) _ _ (unhide HM9))
    obtain ⟨mm, hmm⟩ : ∃ mm, askM (id : Nat) nn (t : Nat) = mm := ⟨_, rfl⟩
    rw [hmm] at r1 r2 r3 r4 KS
    have HR1 := hide r1
    have HR2 := hide r2
    have HR4 := hide r4
    clear r1 r2 r4 hX9' HM9 hmm
    go_wp2_with fail
    refine (unhide KS).mono ?_
    rintro e w10 ⟨⟨s1, x, rfl, hs1⟩, hb10⟩
    have hs2 : s1 = (writ mm.nat).1 ∧ x = 0 := by
      rcases hs1 with ⟨k, _⟩ | ⟨_, k, _⟩ | ⟨_, _, k, k2⟩
      · exact absurd (unhide HR4) k
      · omega
      · exact ⟨k, k2⟩
    obtain ⟨rfl, rfl⟩ := hs2
    have HB10 := hide ((unhide HB9).trans (hb10.mono (unhide HB9).size))
    have KA := hide (answered_k l al cl w.heap.size (writ mm.nat).1 stream w10 ((unhide HE).below (unhide HB10)) (unhide HB10).size hl (unhide HZ) r3 (unhide HR2))
    rw [unhide HR1] at KA
    obtain ⟨sb, hsb⟩ : ∃ sb, (writ mm.nat).1 = sb := ⟨_, rfl⟩
    rw [hsb] at KA ⊢
    clear hs1 hb10 KS HB9 HR1 HR2 HR4 hsb r3 x0 x1 x2 x3 x4 x5 lX
    go_wp2_with fail
    refine (unhide KA).mono ?_
    rintro e w11 ⟨k, va, rfl, _, hMa, hb11⟩
    obtain ⟨f, g1, g2, g3, g4, g5⟩ := nowhere_p id (smallP nn) (t : Nat) l (limP 0 stream) k [⟨nn, (t : Nat), 1⟩]
    obtain ⟨A, hA⟩ : ∃ A, repMsg ⟨id, 33792, toldP (recordsM l) (smallP nn), [⟨nn, (t : Nat), 1⟩], false, setsP (recordsM l) (smallP nn) (t : Nat), limP 0 stream⟩ k = A := ⟨_, rfl⟩
    rw [hA] at hMa g1 g5 ⊢
    obtain ⟨b1, d1, b2, d2, b3, d3, b4, d4, rfl, _, _, hrU, _⟩ := hMa
    rw [g1]
    have HB11 := hide ((unhide HB10).trans (hb11.mono (unhide HB10).size))
    have hb12 := (Below.refl w11.heap.size w11).alloc (Nat.le_refl _) (.cells #[.int .i64 A.id, .int .i64 (f : Nat), .slice b1 A.q.length d1, .slice b2 A.a.length d2, .slice b3 A.u.length d3, .slice b4 A.x.length d4] 27)
    have HA12 := hide (heap_alloc_new w11 (.cells #[.int .i64 A.id, .int .i64 (f : Nat), .slice b1 A.q.length d1, .slice b2 A.a.length d2, .slice b3 A.u.length d3, .slice b4 A.x.length d4] 27))
    have HU12 := hide ((hrU.below hb12).mono hb12.size)
    have HB12 := hide ((unhide HB11).trans (hb12.mono (unhide HB11).size))
    have HG5 := hide g5
    have HG2 := hide g2
    have KR := hide (fun (W : World) (hW : Below w.heap.size w W) => records_z l al cl w.heap.size W ((unhide HE).below hW) hW.size hls (unhide HZ))
    clear hrU hb11 hb12 hA g1 g2 g5 HB10 HB11 KA
    go_wp2_with fail
    generalize w11.alloc (.cells #[.int .i64 A.id, .int .i64 (f : Nat), .slice b1 A.q.length d1, .slice b2 A.a.length d2, .slice b3 A.u.length d3, .slice b4 A.x.length d4] 27) = w12 at *
    generalize w11.heap.size = Y at *
    refine (unhide KR _ (unhide HB12)).mono ?_
    rintro e w13 ⟨az, cz, rfl, hoz, hb13⟩
    have HA13 := hide ((hb13.block Y (blk_lt (unhide HA12))).trans (unhide HA12))
    have HU13 := hide (((unhide HU12).below hb13).mono hb13.size)
    have HB13 := hide ((unhide HB12).trans (hb13.mono (unhide HB12).size))
    have hzl := zone_lenP l hl
    have hzl2 : (recordsP l).length ≤ 16777216 := by have := zone_len l; rw [records_same] at this; omega
    have HRz := hide (own_atN hoz)
    have HTl : Hid (∀ i (h : i < (recordsP l).length), Tl (recordsP l)[i].name 0 ∧ (recordsP l)[i].name.size ≤ 255) := fun i h => by
      have hm : (recordsP l)[i] ∈ recordsM l := by rw [records_same]; exact List.getElem_mem h
      exact (whole_iff _).1 (zone_ok hm).1.1
    have hnl := whole_pos (unhide HN1)
    have hany : toldP (recordsM l) (smallP nn) = if (recordsP l).any (fun x => withinAt x.name (smallP nn) 0) then 0 else 3 := by
      unfold toldP hasP
      rw [records_same]
    have HAny := hide hany
    clear hany
    have KSm := hide (fun W => small_k nn W (by omega))
    clear hoz hb13 HA12 HU12 HB12 KR
    obtain ⟨sn, hsn⟩ : ∃ sn, smallP nn = sn := ⟨_, rfl⟩
    rw [hsn] at HAny KSm HG2
    have HG5b := HG5
    clear hsn
    obtain ⟨z, hz⟩ : ∃ z, recordsP l = z := ⟨_, rfl⟩
    rw [hz] at HRz HTl HAny hzl2 ⊢
    clear hz hzl
    go_wp2_with fail
    go_loopg [17, 18] (z.length + 1) (fun g vt vi w' => ∃ j : Nat, vi = .int .i64 j ∧ j ≤ z.length ∧ g = z.length + 1 - j ∧ vt = .bool ((z.take j).any fun x => withinAt x.name sn 0) ∧ Hid (Below w13.heap.size w13 w'))
    case atStart => exact ⟨0, rfl, Nat.zero_le _, rfl, rfl, hide (Below.refl _ _)⟩
    case round =>
      obtain ⟨j, rfl, hj, rfl, rfl, HC⟩ := hrel
      by_cases cj : j < z.length
      · obtain ⟨b, o, rfl, hb, y0, y1, y2, y3, y4⟩ := row_r ((unhide HRz).below (unhide HC)) j cj
        obtain ⟨t1, t2⟩ := unhide HTl j cj
        have HT1 := hide t1
        have hstep := any_take z (fun x => withinAt x.name sn 0) j cj
        obtain ⟨zn, hzn⟩ : ∃ zn, z[j].name = zn := ⟨_, rfl⟩
        rw [hzn] at y0 t2 HT1 hstep
        obtain ⟨res, hres⟩ : ∃ res, withinAt zn sn 0 = res := ⟨_, rfl⟩
        have HKB := hide (fun W => below_k zn sn W (by omega) (unhide HT1))
        rw [hres] at HKB hstep
        have HSt := hide hstep
        obtain ⟨old, hold⟩ : ∃ old, ((z.take j).any fun x => withinAt x.name sn 0) = old := ⟨_, rfl⟩
        rw [hold] at HSt ⊢
        clear hstep hres hzn t1 hold
        have hbw : b < wr.heap.size := by have := (unhide HC).size; omega
        go_upto_region 17 with fail
        go_cut [19] (fun v w' => v = .bool res ∧ Hid (Below w13.heap.size w13 w'))
        case first =>
          go_region_with (first | (go_at_call 13; refine (unhide KSm _).mono ?_; rintro e w14 ⟨rfl, hb14⟩; have y0' := (hb14.cell (p := ⟨b, o + j * 5, none⟩) hbw).trans y0) | (go_at_call 17; refine (unhide HKB _).mono ?_; rintro e w15 ⟨rfl, rfl⟩))
          all_goals go_wp2_with fail
          all_goals go_meet
          all_goals exact ⟨rfl, hide ((unhide HC).trans ((below_undrew hb14).mono (unhide HC).size))⟩
        case rest =>
          obtain ⟨rfl, HC2⟩ := hcut
          cases old
          all_goals
            go_wp2_with fail
            go_roundg (z.length + 1 - (j + 1))
            case measure => omega
            case rel => exact ⟨j + 1, by go_num, by omega, rfl, by rw [unhide HSt]; rfl, HC2⟩
      · have ej : j = z.length := by omega
        subst ej
        rw [List.take_length]
        have hAny := unhide HAny
        have hTe := unhide HG2
        obtain ⟨T, hT⟩ : ∃ T, toldP (recordsM l) sn = T := ⟨_, rfl⟩
        rw [hT] at hAny hTe
        obtain ⟨an, han⟩ : ∃ an, (z.any fun x => withinAt x.name sn 0) = an := ⟨_, rfl⟩
        rw [han] at hAny ⊢
        have hA14 := ((unhide HC).block Y (blk_lt (unhide HA13))).trans (unhide HA13)
        have HU14 := hide (((unhide HU13).below (unhide HC)).mono (unhide HC).size)
        have HB14 := hide ((unhide HB13).trans ((unhide HC).mono (unhide HB13).size))
        obtain ⟨⟨m0, m1, m2, m3, m4, m5⟩, _⟩ := cells6 hA14
        have lm := blk_lt hA14
        clear HAny HG2 hT han HC HA13 HU13 HB13 HTl HRz KSm
        have hand1 : bits .and .i64 ((f : Nat) : Int) 1024 = 1024 := by
          have h1 := i64_and_nat f 1024 g4 (by decide)
          rw [g3] at h1
          exact h1
        have h512 := i64_and_nat f 512 g4 (by decide)
        have hcase : (0 < A.a.length) ∨ (A.a.length = 0 ∧ bits .and .i64 ((f : Nat) : Int) 512 = 512) ∨ (A.a.length = 0 ∧ bits .and .i64 ((f : Nat) : Int) 512 = 0 ∧ A.u = [soaR l]) := by
          rcases Nat.eq_zero_or_pos A.a.length with q | q
          · refine .inr ?_
            by_cases q2 : f &&& 512 = 512
            · rw [q2] at h512
              exact .inl ⟨q, h512⟩
            · have q3 : f &&& 512 = 0 := by
                have h1 : f &&& 512 = f % 1024 / 512 * 512 := nat_midmask 10 9 f (by decide)
                omega
              rw [q3] at h512
              refine .inr ⟨q, h512, ?_⟩
              rcases unhide HG5 with k | k | k
              · exact absurd (List.length_eq_zero_iff.1 q) k
              · exact absurd k q2
              · exact k
          · exact .inl q
        have hTc : (an = true ∧ T = 0) ∨ (an = false ∧ T = 3) := by
          cases an
          · exact .inr ⟨rfl, hAny⟩
          · exact .inl ⟨rfl, hAny⟩
        clear h512 HG5 HG5b hAny
        rcases hTc with ⟨rfl, rfl⟩ | ⟨rfl, rfl⟩
        · have h16 : ((f : Int) % 16 == 0) = true := by rw [beq_iff_eq]; omega
          rcases hcase with q | ⟨q, q1⟩ | ⟨q, q1, q2⟩
          · have q3 : decide ((0 : Int) < (A.a.length : Int)) = true := decide_eq_true (by omega)
            go_wp2_with fail
            go_ret
            exact ⟨rfl, unhide HB14⟩
          · rw [q] at m3
            go_wp2_with fail
            go_ret
            exact ⟨rfl, unhide HB14⟩
          · have hu := unhide HU14
            rw [q2] at hu m4
            obtain ⟨b', o', rfl, hb', u0, u1, _⟩ := row_r hu 0 (by simp)
            simp only [List.getElem_cons_zero, Nat.zero_mul, Nat.add_zero] at u0 u1
            rw [show (soaR l).name = ⟨#[3, 115, 118, 99, 4, 109, 101, 115, 104, 0]⟩ from rfl] at u0
            rw [show (soaR l).ty = 6 from rfl] at u1
            rw [q] at m3
            simp only [List.length_cons, List.length_nil, Nat.zero_add] at m4
            have e00 := strs_eq (rfl : (⟨#[3, 115, 118, 99, 4, 109, 101, 115, 104, 0]⟩ : ByteArray) = ⟨#[3, 115, 118, 99, 4, 109, 101, 115, 104, 0]⟩)
            go_wp2_with fail
            go_ret
            exact ⟨rfl, unhide HB14⟩
        · have h16 : ((f : Int) % 16 == 3) = true := by rw [beq_iff_eq]; omega
          rcases hcase with q | ⟨q, q1⟩ | ⟨q, q1, q2⟩
          · have q3 : decide ((0 : Int) < (A.a.length : Int)) = true := decide_eq_true (by omega)
            go_wp2_with fail
            go_ret
            exact ⟨rfl, unhide HB14⟩
          · rw [q] at m3
            go_wp2_with fail
            go_ret
            exact ⟨rfl, unhide HB14⟩
          · have hu := unhide HU14
            rw [q2] at hu m4
            obtain ⟨b', o', rfl, hb', u0, u1, _⟩ := row_r hu 0 (by simp)
            simp only [List.getElem_cons_zero, Nat.zero_mul, Nat.add_zero] at u0 u1
            rw [show (soaR l).name = ⟨#[3, 115, 118, 99, 4, 109, 101, 115, 104, 0]⟩ from rfl] at u0
            rw [show (soaR l).ty = 6 from rfl] at u1
            rw [q] at m3
            simp only [List.length_cons, List.length_nil, Nat.zero_add] at m4
            have e00 := strs_eq (rfl : (⟨#[3, 115, 118, 99, 4, 109, 101, 115, 104, 0]⟩ : ByteArray) = ⟨#[3, 115, 118, 99, 4, 109, 101, 115, 104, 0]⟩)
            go_wp2_with fail
            go_ret
            exact ⟨rfl, unhide HB14⟩

end Go.Proofs.YtdhobdmhnocbgabGreat
