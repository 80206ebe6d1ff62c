/-
  Plain: the zone's records: which there are, that they are well made, how many.
-/
/-
  Plain: of few news all sets of an answer fit over a stream; what a limit leaves of them, and what the flags say of it.
-/
/-
  Plain: letters that are turned; small letters.
-/
/-
  Plain: a question with other letters has the same answer.
-/
/-
  Walks over zonekeep: small letters; a name below another; letters turned.
-/
/-
  Plain: news in another order, or told twice, make the same zone and the same answers.
-/
/-
  Walks over zonekeep: the first news; how a list begins; the parts of two messages.
-/
/-
  Walks over zonekeep: Cased.
-/
import Derived.Test.YtdhobdmhnocbgabGreatSFiP
import Derived.Test.YtdhobdmhnocbgabGreatSNwC
import Derived.Test.YtdhobdmhnocbgabGreatSQuB
import Derived.Test.YtdhobdmhnocbgabGreatSAnF
import Derived.Test.YtdhobdmhnocbgabGreatSKeepA
import Derived.Test.YtdhobdmhnocbgabGreatSQuD
namespace Go.Proofs.YtdhobdmhnocbgabGreat
open Go.RowKit Zr

theorem aliM_ok {up : List Ev} : ∀ {n : Nat} {e : Ev}, e ∈ aliM up (sortP (aliEs up)) n → e ∈ up ∧ e.alias ≠ ⟨#[]⟩ ∧ ¬ isUp up e.alias
  | 0, e, h => by simp [aliM] at h
  | n + 1, e, h => by
    unfold aliM at h
    split at h
    · next hn =>
      split at h
      · exact aliM_ok h
      · next hc =>
        rcases List.mem_append.1 h with h | h
        · exact aliM_ok h
        · rw [List.mem_singleton] at h
          have hn2 : ¬ isUp up (sortP (aliEs up))[n].key := fun q => hc (.inr q)
          obtain ⟨y, hy, he⟩ := List.mem_map.1 (sort_mem.1 (List.getElem_mem hn))
          rw [← he] at hn2 h
          simp only at hn2 h
          subst h
          obtain ⟨h1, h2⟩ := List.mem_filter.1 hy
          exact ⟨h1, of_decide_eq_true h2, hn2⟩
    · exact aliM_ok h

/-- The names that are told by an alias. -/
noncomputable def aliL (l : List Ev) : List Ev := aliM (upM l) (sortP (aliEs (upM l))) (sortP (aliEs (upM l))).length

theorem aliL_len (l : List Ev) : (aliL l).length ≤ (upM l).length := by
  have h3 := aliM_len (upM l) (sortP (aliEs (upM l))) (sortP (aliEs (upM l))).length
  rw [sort_length] at h3
  have h4 := aliEs_len (upM l) (upM l).length
  rw [List.take_length] at h4
  unfold aliL
  rw [sort_length]
  omega

/-- What a record of the zone is. -/
def inZ (l : List Ev) (x : RI) : Prop :=
  ((∃ k : Nat, x = madeR originB 6 (soaB k)) ∨ x = madeR originB 2 serverB) ∨
  (∃ u, u ∈ upM l ∧ (x = madeR (underP u.node) (kindOf u) u.addr ∨ (u.text ≠ ⟨#[]⟩ ∧ x = madeR (underP u.node) 16 (one u.text.size ++ u.text)))) ∨
  (∃ u, u ∈ upM l ∧ u.alias ≠ ⟨#[]⟩ ∧ ¬ isUp (upM l) u.alias ∧ x = cnR u) ∨
  ∃ u, u ∈ upM l ∧ x = srvR u

theorem nodeR_is {u : Ev} {x : RI} (h : x ∈ nodeR u) : x = madeR (underP u.node) (kindOf u) u.addr ∨ (u.text ≠ ⟨#[]⟩ ∧ x = madeR (underP u.node) 16 (one u.text.size ++ u.text)) := by
  unfold nodeR at h
  rcases List.mem_cons.1 h with h | h
  · exact .inl h
  · split at h
    · simp at h
    · next ht =>
      rw [List.mem_singleton] at h
      exact .inr ⟨ht, h⟩

theorem zone_mem {l : List Ev} {x : RI} (h : x ∈ recordsM l) : inZ l x := by
  unfold recordsM at h
  rcases List.mem_append.1 h with h | h
  · rcases List.mem_append.1 h with h | h
    · rcases List.mem_append.1 h with h | h
      · simp only [List.mem_cons, List.mem_nil_iff, or_false] at h
        rcases h with h | h
        · exact .inl (.inl ⟨_, h⟩)
        · exact .inl (.inr h)
      · obtain ⟨u, hu, hx⟩ := List.mem_flatMap.1 h
        exact .inr (.inl ⟨u, hu, nodeR_is hx⟩)
    · obtain ⟨u, hu, rfl⟩ := List.mem_map.1 h
      obtain ⟨h1, h2, h3⟩ := aliM_ok hu
      exact .inr (.inr (.inl ⟨u, h1, h2, h3, rfl⟩))
  · obtain ⟨u, hu, rfl⟩ := List.mem_map.1 h
    exact .inr (.inr (.inr ⟨u, hu, rfl⟩))

theorem up_good {l : List Ev} {u : Ev} (h : u ∈ upM l) : labelOk u.node ∧ aliveOk u := by
  obtain ⟨hg, hk⟩ := up_mem h
  obtain ⟨h1, _, _, h4⟩ := hg
  rcases h4 with h4 | ⟨_, h5⟩
  · rw [hk] at h4; exact absurd h4 (by decide)
  · exact ⟨h1, h5⟩

theorem rec_made {n d : ByteArray} (t : Nat) (hn : wholeB n = true) (ht : t ≤ 65535) (hd : wellD t d) : recOk (madeR n (t : Int) d) :=
  ⟨hn, ⟨by show (0 : Int) ≤ (t : Int); omega, by show (t : Int) ≤ 65535; omega⟩, ⟨by show (0 : Int) ≤ 1; decide, by show (1 : Int) ≤ 65535; decide⟩, ⟨by show (0 : Int) ≤ 30; decide, by show (30 : Int) ≤ 4294967295; decide⟩, by show wellD (t : Int).toNat d; rw [Int.toNat_natCast]; exact hd⟩

theorem server_whole : wholeB serverB = true := by kernel_rfl
theorem admin_whole : wholeB adminB = true := by kernel_rfl

theorem soa_well (k : Nat) : wellD 6 (soaB k) := by
  refine (wellD_two _).2 ⟨serverB, adminB, q4 k ++ (q4 3600 ++ (q4 600 ++ (q4 86400 ++ q4 30))), ?_, server_whole, admin_whole, ?_⟩
  · unfold soaB
    simp only [append_assoc']
  · simp only [ByteArray.size_append, q4_size]
theorem text_well (s : ByteArray) (h : s.size ≤ 60) : wellD 16 (one s.size ++ s) := by
  have hz : (one s.size ++ s).size = 1 + s.size := by rw [ByteArray.size_append]; rfl
  refine (wellD_flat _ 16 (by omega) (by omega)).2 ⟨by omega, ?_⟩
  have h1 := rowB_push ⟨#[]⟩ s s.size (by omega) rfl (by decide)
  rw [empty_append] at h1
  show ((one s.size ++ s).size != 0 && rowB (one s.size ++ s) 0 1) = true
  have h2 : rowB (one s.size ++ s) 0 1 = true := h1
  rw [h2, Bool.and_true, bne_iff_ne]
  omega
theorem srv_well (p : Nat) (s : ByteArray) (h1 : 1 ≤ s.size) (h2 : s.size ≤ 15) : wellD 33 (q4 0 ++ wd p ++ underP s) := by
  have hs1 : (q4 0 ++ wd p).size = 6 := by rw [ByteArray.size_append, q4_size, wd_size]
  have hu := under_whole h1 h2
  have hz : (q4 0 ++ wd p ++ underP s).size = 6 + (underP s).size := by rw [ByteArray.size_append, hs1]
  refine (wellD_flat _ 33 (by omega) (by omega)).2 ⟨by omega, ?_⟩
  show svcB _ = true
  rw [svc_whole _ (by omega)]
  have hx := extract_back (q4 0 ++ wd p) (underP s)
  rw [hs1] at hx
  rw [hx]
  exact hu.1

/-- A record of the zone is well made, no OPT, and short. -/
theorem zone_ok {l : List Ev} {x : RI} (h : x ∈ recordsM l) : recOk x ∧ x.ty ≠ 41 ∧ x.name.size + 10 + x.data.size ≤ 97 := by
  rcases zone_mem h with (⟨k, rfl⟩ | rfl) | ⟨u, hu, rfl | ⟨ht, rfl⟩⟩ | ⟨u, hu, ha, _, rfl⟩ | ⟨u, hu, rfl⟩
  · refine ⟨rec_made 6 origin_whole (by omega) (soa_well k), by show (6 : Int) ≠ 41; decide, ?_⟩
    show 10 + 10 + (soaB k).size ≤ 97
    unfold soaB
    simp only [ByteArray.size_append, q4_size]
    show 10 + 10 + (13 + 16 + 4 + 4 + 4 + 4 + 4) ≤ 97
    omega
  · exact ⟨rec_made 2 origin_whole (by omega) ((wellD_one _ 2 (by omega)).2 server_whole), by show (2 : Int) ≠ 41; decide, by show 10 + 10 + 13 ≤ 97; omega⟩
  · obtain ⟨hn, ha⟩ := up_good hu
    obtain ⟨u1, u2⟩ := under_whole hn.2.1 hn.2.2
    have us := under_size u.node
    have hn2 := hn.2.2
    rcases ha.2.1 with h4 | h4
    · have hk : kindOf u = ((1 : Nat) : Int) := by unfold kindOf; rw [if_neg (by omega)]; rfl
      rw [hk]
      refine ⟨rec_made 1 u1 (by omega) ((wellD_flat _ 1 (by omega) (by omega)).2 ⟨by omega, by show (u.addr.size == 4) = true; rw [h4]; rfl⟩), by show (1 : Int) ≠ 41; decide, ?_⟩
      show (underP u.node).size + 10 + u.addr.size ≤ 97
      omega
    · have hk : kindOf u = ((28 : Nat) : Int) := by unfold kindOf; rw [if_pos h4]; rfl
      rw [hk]
      refine ⟨rec_made 28 u1 (by omega) ((wellD_flat _ 28 (by omega) (by omega)).2 ⟨by omega, by show (u.addr.size == 16) = true; rw [h4]; rfl⟩), by show (28 : Int) ≠ 41; decide, ?_⟩
      show (underP u.node).size + 10 + u.addr.size ≤ 97
      omega
  · obtain ⟨hn, ha⟩ := up_good hu
    obtain ⟨u1, u2⟩ := under_whole hn.2.1 hn.2.2
    have us := under_size u.node
    have hn2 := hn.2.2
    have ht2 := ha.2.2.2.2
    refine ⟨rec_made 16 u1 (by omega) (text_well _ ht2), by show (16 : Int) ≠ 41; decide, ?_⟩
    show (underP u.node).size + 10 + (one u.text.size ++ u.text).size ≤ 97
    rw [ByteArray.size_append]
    show (underP u.node).size + 10 + (1 + u.text.size) ≤ 97
    omega
  · obtain ⟨hn, hal⟩ := up_good hu
    obtain ⟨u1, u2⟩ := under_whole hn.2.1 hn.2.2
    have hl : labelOk u.alias := by
      rcases hal.1 with q | q
      · exact absurd q ha
      · exact q
    obtain ⟨v1, v2⟩ := under_whole hl.2.1 hl.2.2
    have us := under_size u.node
    have vs := under_size u.alias
    have hn2 := hn.2.2
    have hl2 := hl.2.2
    refine ⟨rec_made 5 v1 (by omega) ((wellD_one _ 5 (by omega)).2 u1), by show (5 : Int) ≠ 41; decide, ?_⟩
    show (underP u.alias).size + 10 + (underP u.node).size ≤ 97
    omega
  · obtain ⟨hn, ha⟩ := up_good hu
    have us := under_size u.node
    have hn2 := hn.2.2
    refine ⟨rec_made 33 service_whole (by omega) (srv_well _ _ hn.2.1 hn.2.2), by show (33 : Int) ≠ 41; decide, ?_⟩
    show 21 + 10 + (q4 0 ++ wd u.port.toNat ++ underP u.node).size ≤ 97
    rw [ByteArray.size_append, ByteArray.size_append, q4_size, wd_size]
    omega

/-- A name of the zone that is a service's has services alone. -/
theorem service_kind {l : List Ev} {x : RI} (h : x ∈ recordsM l) : (x.name = serviceB ↔ x.ty = 33) := by
  have hs : serviceB.size = 21 := rfl
  have ho : originB ≠ serviceB := fun e => absurd (congrArg ByteArray.size e) (by decide)
  have hu : ∀ s : ByteArray, 1 ≤ s.size → s.size ≤ 15 → underP s ≠ serviceB := fun s h1 h2 e => by
    have h3 := congrArg ByteArray.size e
    rw [under_size, hs] at h3
    have h4 : bt (underP s) 0 = s.size := by
      unfold underP
      rw [append_assoc', bt_append, if_pos (by show 0 < 1; omega)]
      show (UInt8.ofNat s.size).toNat = _
      rw [UInt8.toNat_ofNat_of_lt' (by simpa using (show s.size < 256 by omega))]
    rw [e] at h4
    have h5 : bt serviceB 0 = 5 := by decide
    omega
  rcases zone_mem h with (⟨k, rfl⟩ | rfl) | ⟨u, hu2, rfl | ⟨ht, rfl⟩⟩ | ⟨u, hu2, ha, _, rfl⟩ | ⟨u, hu2, rfl⟩
  · exact ⟨fun e => absurd e ho, fun e => absurd e (by show ¬ (6 : Int) = 33; decide)⟩
  · exact ⟨fun e => absurd e ho, fun e => absurd e (by show ¬ (2 : Int) = 33; decide)⟩
  · obtain ⟨hn, _⟩ := up_good hu2
    refine ⟨fun e => absurd e (hu _ hn.2.1 hn.2.2), fun e => absurd e ?_⟩
    show ¬ kindOf u = 33
    rcases kind_of u with q | q <;> rw [q] <;> decide
  · obtain ⟨hn, _⟩ := up_good hu2
    exact ⟨fun e => absurd e (hu _ hn.2.1 hn.2.2), fun e => absurd e (by show ¬ (16 : Int) = 33; decide)⟩
  · obtain ⟨hn, hal⟩ := up_good hu2
    have hl : labelOk u.alias := by
      rcases hal.1 with q | q
      · exact absurd q ha
      · exact q
    exact ⟨fun e => absurd e (hu _ hl.2.1 hl.2.2), fun e => absurd e (by show ¬ (5 : Int) = 33; decide)⟩
  · exact ⟨fun _ => rfl, fun _ => rfl⟩

/-- Counts. -/
theorem flat_count (p : RI → Bool) (k : Nat) : ∀ up : List Ev, (∀ u, u ∈ up → (nodeR u).countP p ≤ k) → (up.flatMap nodeR).countP p ≤ k * up.length
  | [], _ => by simp
  | u :: up, h => by
    rw [List.flatMap_cons, List.countP_append, List.length_cons, Nat.mul_add]
    have h1 := h u (by simp)
    have h2 := flat_count p k up fun v hv => h v (by simp [hv])
    omega
theorem map_count (f : Ev → RI) (p : RI → Bool) (L : List Ev) : (L.map f).countP p ≤ L.length := by
  have := List.countP_le_length (p := p) (l := L.map f)
  rw [List.length_map] at this
  exact this
theorem map_none (f : Ev → RI) (p : RI → Bool) (L : List Ev) (h : ∀ u, p (f u) = false) : (L.map f).countP p = 0 := cnt_zero fun x hx => by
  obtain ⟨u, _, rfl⟩ := List.mem_map.1 hx
  exact h u
theorem two_count (p : RI → Bool) (a b : RI) : [a, b].countP p ≤ 2 := List.countP_le_length

theorem zone_split (l : List Ev) (p : RI → Bool) : (recordsM l).countP p = [madeR originB 6 (soaB (incP (goodL l)).toNat), madeR originB 2 serverB].countP p + ((upM l).flatMap nodeR).countP p + ((aliL l).map cnR).countP p + ((upM l).map srvR).countP p := by
  unfold recordsM aliL
  rw [List.countP_append, List.countP_append, List.countP_append]

theorem kind_count (l : List Ev) (t : Int) : (recordsM l).countP (fun x => decide (x.ty = t)) ≤ (upM l).length + 2 ∧ (t = 6 → (recordsM l).countP (fun x => decide (x.ty = t)) ≤ 2) := by
  rw [zone_split]
  have h1 := two_count (fun x => decide (x.ty = t)) (madeR originB 6 (soaB (incP (goodL l)).toNat)) (madeR originB 2 serverB)
  have h2 := map_count cnR (fun x => decide (x.ty = t)) (aliL l)
  have h3 := map_count srvR (fun x => decide (x.ty = t)) (upM l)
  have h4 := aliL_len l
  by_cases c5 : t = 5
  · subst c5
    have e1 : [madeR originB 6 (soaB (incP (goodL l)).toNat), madeR originB 2 serverB].countP (fun x => decide (x.ty = 5)) = 0 := rfl
    have e2 : ((upM l).flatMap nodeR).countP (fun x => decide (x.ty = 5)) = 0 := cnt_zero fun x hx => by
      obtain ⟨u, _, hx⟩ := List.mem_flatMap.1 hx
      refine decide_eq_false ?_
      obtain ⟨_, hk, _⟩ := nodeR_name hx
      omega
    have e3 := map_none srvR (fun x => decide (x.ty = 5)) (upM l) (fun _ => rfl)
    exact ⟨by omega, fun h => by omega⟩
  · have e2 := map_none cnR (fun x => decide (x.ty = t)) (aliL l) (fun u => decide_eq_false (by show ¬ (5 : Int) = t; omega))
    by_cases c33 : t = 33
    · subst c33
      have e1 : ((upM l).flatMap nodeR).countP (fun x => decide (x.ty = 33)) = 0 := cnt_zero fun x hx => by
        obtain ⟨u, _, hx⟩ := List.mem_flatMap.1 hx
        refine decide_eq_false ?_
        obtain ⟨_, hk, _⟩ := nodeR_name hx
        omega
      exact ⟨by omega, fun h => by omega⟩
    · have e3 := map_none srvR (fun x => decide (x.ty = t)) (upM l) (fun u => decide_eq_false (by show ¬ (33 : Int) = t; omega))
      by_cases c6 : t = 6
      · have e1 : ((upM l).flatMap nodeR).countP (fun x => decide (x.ty = t)) = 0 := cnt_zero fun x hx => by
          obtain ⟨u, _, hx⟩ := List.mem_flatMap.1 hx
          refine decide_eq_false ?_
          obtain ⟨_, hk, _⟩ := nodeR_name hx
          omega
        exact ⟨by omega, fun h => by omega⟩
      · have e1 := flat_count (fun x => decide (x.ty = t)) 1 (upM l) fun u _ => by
          rw [nodeR_count]
          have ha : (if (fun x : RI => decide (x.ty = t)) (madeR (underP u.node) (kindOf u) u.addr) = true then 1 else 0) = if kindOf u = t then 1 else 0 := by
            show (if decide (kindOf u = t) = true then 1 else 0) = _
            simp
          have hb : (if (fun x : RI => decide (x.ty = t)) (madeR (underP u.node) 16 (one u.text.size ++ u.text)) = true then 1 else 0) = if (16 : Int) = t then 1 else 0 := by
            show (if decide ((16 : Int) = t) = true then 1 else 0) = _
            simp
          rw [ha, hb]
          have hk := kind_of u
          split <;> split <;> (try split) <;> omega
        exact ⟨by omega, fun h => absurd h c6⟩

theorem name_count (l : List Ev) (n : ByteArray) : (recordsM l).countP (fun x => decide (x.name = n)) ≤ 3 * (upM l).length + 2 := by
  by_cases c : n = serviceB
  · have h := (kind_count l 33).1
    have e : (recordsM l).countP (fun x => decide (x.name = n)) = (recordsM l).countP (fun x => decide (x.ty = 33)) := by
      refine List.countP_congr fun x hx => ?_
      rw [decide_eq_true_iff, decide_eq_true_iff, c]
      exact service_kind hx
    omega
  · rw [zone_split]
    have h1 := two_count (fun x => decide (x.name = n)) (madeR originB 6 (soaB (incP (goodL l)).toNat)) (madeR originB 2 serverB)
    have h2 := map_count cnR (fun x => decide (x.name = n)) (aliL l)
    have h3 := map_none srvR (fun x => decide (x.name = n)) (upM l) (fun u => decide_eq_false fun e => c e.symm)
    have h4 := aliL_len l
    have h5 := flat_count (fun x => decide (x.name = n)) 2 (upM l) fun u _ => Nat.le_trans List.countP_le_length (nodeR_len u).2
    omega

end Go.Proofs.YtdhobdmhnocbgabGreat

namespace Go.Proofs.YtdhobdmhnocbgabGreat
open Go.RowKit Zr

/-- Each set has all records of a name and its type. -/
def KindZ (z : List RI) (L : List ST) : Prop := ∀ s, s ∈ L → ∃ n, s.l = ofP z n s.kind ∧ s.l ≠ []
theorem KindZ.want {z : List RI} {L : List ST} (h : KindZ z L) (p : Nat) (n : ByteArray) (t : Int) : KindZ z (wantP z L p n t) := by
  intro s hs
  unfold wantP at hs
  split at hs
  · exact h s hs
  · next hne =>
    rcases List.mem_append.1 hs with q | q
    · exact h s q
    · rw [List.mem_singleton] at q
      subst q
      exact ⟨n, rfl, hne⟩
theorem KindZ.nil (z : List RI) : KindZ z [] := fun s hs => by cases hs
theorem wantTo_end (z : List RI) (n : ByteArray) (L : List ST) (j : Nat) (k : z.length ≤ j) : wantTo z n L (j + 1) = wantTo z n L j := by
  show (match z[j]? with | none => _ | some x => _ : List ST) = _
  rw [List.getElem?_eq_none k]
/-- All sets of a name. -/
def NameZ (z : List RI) (n : ByteArray) (L : List ST) : Prop := ∀ s, s ∈ L → s.l = ofP z n s.kind ∧ s.l ≠ [] ∧ s.part = 0
theorem NameZ.want {z : List RI} {n : ByteArray} {L : List ST} (h : NameZ z n L) (t : Int) : NameZ z n (wantP z L 0 n t) := by
  intro s hs
  unfold wantP at hs
  split at hs
  · exact h s hs
  · next hne =>
    rcases List.mem_append.1 hs with q | q
    · exact h s q
    · rw [List.mem_singleton] at q
      subst q
      exact ⟨rfl, hne, rfl⟩
theorem NameZ.all (z : List RI) (n : ByteArray) : ∀ j, NameZ z n (wantTo z n [] j)
  | 0 => fun s hs => by simp [wantTo] at hs
  | j + 1 => by
    have ih := NameZ.all z n j
    rcases Nat.lt_or_ge j z.length with k | k
    · rw [wantTo_step z n [] j k]
      split
      · exact ih.want _
      · exact ih
    · rw [wantTo_end z n [] j k]
      exact ih
theorem NameZ.kind {z : List RI} {n : ByteArray} {L : List ST} (h : NameZ z n L) : KindZ z L := fun s hs => ⟨n, (h s hs).1, (h s hs).2.1⟩
theorem KindZ.answ (z : List RI) (n : ByteArray) (t : Int) : KindZ z (answP z [] n t) := by
  unfold answP
  split
  · exact (NameZ.all z n _).kind
  · split
    · exact (KindZ.nil z).want _ _ _
    · exact ((KindZ.nil z).want _ _ _).want _ _ _
theorem KindZ.main (z : List RI) (n : ByteArray) (t : Int) : KindZ z (mainP z n t) := by
  unfold mainP soaP
  split
  · exact KindZ.answ z n t
  · exact (KindZ.answ z n t).want _ _ _

theorem of_len (z : List RI) (n : ByteArray) (t : Int) : (ofP z n t).length ≤ z.countP (fun x => decide (x.ty = t)) := by
  unfold ofP
  rw [← List.countP_eq_length_filter]
  refine List.countP_mono_left fun x _ hx => ?_
  rw [decide_eq_true_iff] at hx ⊢
  exact hx.2
theorem services_len {z : List RI} {L : List ST} (h : KindZ z L) : (servicesP L).length ≤ z.countP (fun x => decide (x.ty = 33)) := by
  unfold servicesP
  split
  · simp
  · next s hs =>
    have h1 := List.mem_of_find?_eq_some hs
    have h2 := List.find?_some hs
    have h2' : s.kind = 33 := by simpa using h2
    obtain ⟨n, h3, _⟩ := h s h1
    rw [h3, h2']
    exact of_len z n 33
theorem services_none {L : List ST} (h : ∀ s, s ∈ L → s.kind ≠ 33) : servicesP L = [] := by
  unfold servicesP
  split
  · rfl
  · next s hs =>
    have h2 := List.find?_some hs
    have h2' : s.kind = 33 := by simpa using h2
    exact absurd h2' (h s (List.mem_of_find?_eq_some hs))
theorem tot_one (z : List RI) (L : List ST) (p : Nat) (n : ByteArray) (t : Int) : tot (wantP z L p n t) ≤ tot L + (ofP z n t).length := by
  unfold wantP
  split
  · omega
  · rw [tot_cat]
    have : tot [⟨p, t, ofP z n t⟩] = (ofP z n t).length := by simp [tot]
    omega

theorem soa_tot (l : List Ev) (L : List ST) : tot (soaP (recordsM l) L) ≤ tot L + 2 := by
  have h1 := tot_one (recordsM l) L 1 originB 6
  have h2 := of_len (recordsM l) originB 6
  have h3 := (kind_count l 6).2 rfl
  unfold soaP
  omega
theorem any_tot (l : List Ev) (n : ByteArray) : tot (wantTo (recordsM l) n [] (recordsM l).length) ≤ (recordsM l).countP (fun x => decide (x.name = n)) := by
  rw [tot_all]
  refine List.countP_mono_left fun x _ hx => ?_
  rw [Bool.and_eq_true] at hx
  exact hx.1

/-- How many records an answer wants at most. -/
theorem few_tot (l : List Ev) (n : ByteArray) (t : Int) : tot (setsP (recordsM l) n t) ≤ 3 * (upM l).length + 8 := by
  have hso := fun L => soa_tot l L
  have e0 : tot [] = 0 := rfl
  unfold setsP
  split
  · unfold hostsP
    have h1 := (hosts_more (recordsM l) (servicesP (mainP (recordsM l) n t)) _ (SubZ.main (recordsM l) n t) _ (Nat.le_refl _)).1
    have h2 := services_len (KindZ.main (recordsM l) n t)
    have h3 := (kind_count l 33).1
    by_cases c : t = 255
    · have hm : tot (mainP (recordsM l) n t) ≤ (recordsM l).countP (fun x => decide (x.name = n)) + 2 := by
        have h4 := any_tot l n
        unfold mainP answP
        rw [if_pos c]
        split
        · omega
        · have := hso (wantTo (recordsM l) n [] (recordsM l).length)
          omega
      by_cases cs : n = serviceB
      · have h5 : (recordsM l).countP (fun x => decide (x.name = n)) = (recordsM l).countP (fun x => decide (x.ty = 33)) := by
          refine List.countP_congr fun x hx => ?_
          rw [decide_eq_true_iff, decide_eq_true_iff, cs]
          exact service_kind hx
        omega
      · have h5 := name_count l n
        have h6 : servicesP (mainP (recordsM l) n t) = [] := by
          refine services_none fun s hs hk => ?_
          have hA : s ∈ wantTo (recordsM l) n [] (recordsM l).length → False := fun hw => by
            obtain ⟨h7, h8, _⟩ := NameZ.all (recordsM l) n _ s hw
            rw [h7, hk] at h8
            obtain ⟨x, hx⟩ := List.exists_mem_of_ne_nil _ h8
            obtain ⟨hx1, hx2⟩ := List.mem_filter.1 hx
            have hx3 := of_decide_eq_true hx2
            exact cs (hx3.1.symm.trans ((service_kind hx1).2 hx3.2))
          unfold mainP answP soaP wantP at hs
          rw [if_pos c] at hs
          split at hs
          · exact hA hs
          · split at hs
            · exact hA hs
            · rcases List.mem_append.1 hs with q | q
              · exact hA q
              · rw [List.mem_singleton] at q
                subst q
                exact absurd hk (by show ¬ (6 : Int) = 33; decide)
        rw [h6] at h1 ⊢
        simp only [List.length_nil] at h1 ⊢
        omega
    · have hw : ∀ L a u, tot (wantP (recordsM l) L 0 a u) ≤ tot L + (upM l).length + 2 := fun L a u => by
        have h4 := tot_one (recordsM l) L 0 a u
        have h5 := of_len (recordsM l) a u
        have h6 := (kind_count l u).1
        omega
      have hm : tot (mainP (recordsM l) n t) ≤ 2 * (upM l).length + 6 := by
        unfold mainP answP
        rw [if_neg c]
        have k1 := hw [] n 5
        have k2 := hw (wantP (recordsM l) [] 0 n 5) (aimP (recordsM l) n) t
        by_cases c5 : t = 5
        · rw [if_pos c5]
          have := hso (wantP (recordsM l) [] 0 n 5)
          split <;> omega
        · rw [if_neg c5]
          have := hso (wantP (recordsM l) (wantP (recordsM l) [] 0 n 5) 0 (aimP (recordsM l) n) t)
          split <;> omega
      omega
  · have := hso []
    omega

theorem whlR_cat (A B : List RI) : whlR (A ++ B) = whlR A + whlR B := by
  unfold whlR
  rw [List.foldl_append]
  exact foldR_add B _
theorem whlR_97 : ∀ L : List RI, (∀ x, x ∈ L → x.name.size + 10 + x.data.size ≤ 97) → whlR L ≤ 97 * L.length
  | [], _ => by show (0 : Nat) ≤ _; omega
  | x :: L, h => by
    have h1 := h x (by simp)
    have h2 := whlR_97 L fun y hy => h y (by simp [hy])
    have e : whlR (x :: L) = whlR [x] + whlR L := whlR_cat [x] L
    have e2 : whlR [x] = 0 + x.name.size + 10 + x.data.size := rfl
    rw [List.length_cons]
    omega

theorem part_plain {L : List RI} (p : Nat) (hl : L.length ≤ 65535) (h : ∀ x, x ∈ L → recOk x ∧ x.ty ≠ 41) : partOk L p :=
  ⟨hl, fun _ hi => ⟨(h _ (List.getElem_mem hi)).1, fun q => (h _ (List.getElem_mem hi)).2 q.1⟩⟩
theorem part_cat {A B : List RI} (h : ∀ x, x ∈ A → recOk x ∧ x.ty ≠ 41) (hB : partOk B 2) (hl : A.length + B.length ≤ 65535) : partOk (A ++ B) 2 := by
  refine ⟨by rw [List.length_append]; exact hl, fun i hi => ?_⟩
  rcases Nat.lt_or_ge i A.length with k | k
  · rw [List.getElem_append_left k]
    exact ⟨(h _ (List.getElem_mem k)).1, fun q => (h _ (List.getElem_mem k)).2 q.1⟩
  · rw [List.length_append] at hi
    have hi2 : i - A.length < B.length := by omega
    rw [List.getElem_append_right k]
    obtain ⟨b1, b2⟩ := hB.2 (i - A.length) hi2
    refine ⟨b1, fun q => b2 ⟨q.1, ?_⟩⟩
    rcases q.2 with ⟨y, hy, hy2⟩ | q2
    · rw [List.take_append] at hy
      rcases List.mem_append.1 hy with r | r
      · exact absurd hy2 (h y (List.mem_of_mem_take r)).2
      · exact .inl ⟨y, r, hy2⟩
    · exact .inr q2
theorem partP_mem {L : List ST} {p : Nat} {x : RI} (h : x ∈ partP L p) : ∃ s, s ∈ L ∧ s.part = p ∧ x ∈ s.l := by
  obtain ⟨s, hs, hx⟩ := List.mem_flatMap.1 h
  obtain ⟨h1, h2⟩ := List.mem_filter.1 hs
  exact ⟨s, h1, of_decide_eq_true h2, hx⟩
theorem ques_len {q : List QI} (h : quesOk q) (h6 : q.length ≤ 1) : whlQ q ≤ 300 := by
  match hx : q with
  | [] => show 12 ≤ 300; omega
  | [q] =>
    have := h.2 0 (by simp)
    have hs : q.name.size ≤ 255 := (whole_pos this.1).2
    show 12 + q.name.size + 4 ≤ 300
    omega
  | a :: b :: l => simp at h6

/-- All sets fit, if they are well made, and few. -/
theorem rep_fit (x : Rep) (hr : RepOk x) (hp : Parted x.sets) (h2 : ∀ s, s ∈ x.sets → s.part ≤ 2) (hz : ∀ s, s ∈ x.sets → ∀ y, y ∈ s.l → recOk y ∧ y.ty ≠ 41 ∧ y.name.size + 10 + y.data.size ≤ 97) (hlim : 311 + 97 * tot x.sets ≤ x.lim) (hl2 : x.lim ≤ 65535) : Fit x x.sets.length := by
  obtain ⟨r1, r2, r3, r4, r5, r6⟩ := hr
  have hfl := rep_flags x x.sets.length ⟨r1, r2, r3, r4, r5, r6⟩
  have hflat := parts_flat x.sets hp h2
  have hlen : (partP x.sets 0).length + (partP x.sets 1).length + (partP x.sets 2).length = tot x.sets := by
    unfold tot
    rw [← hflat, List.length_append, List.length_append]
  have hm : ∀ p y, y ∈ partP x.sets p → recOk y ∧ y.ty ≠ 41 := fun p y hy => by
    obtain ⟨s, hs, _, hy⟩ := partP_mem hy
    exact ⟨(hz s hs y hy).1, (hz s hs y hy).2.1⟩
  have hs97 : ∀ p y, y ∈ partP x.sets p → y.name.size + 10 + y.data.size ≤ 97 := fun p y hy => by
    obtain ⟨s, hs, _, hy⟩ := partP_mem hy
    exact (hz s hs y hy).2.2
  have ho : (optsP x).length ≤ 1 := by unfold optsP; split <;> simp
  have e : repMsg x x.sets.length = ⟨x.id, (flagTo x.sets x.sets.length (x.fl ||| x.told % 16) x.sets.length : Nat), x.q, partP x.sets 0, partP x.sets 1, partP x.sets 2 ++ optsP x⟩ := by
    unfold repMsg
    rw [List.take_length]
  have hok : msgOk (repMsg x x.sets.length) := by
    rw [e]
    refine ⟨⟨by show (0 : Int) ≤ (x.id : Int); omega, by show (x.id : Int) ≤ 65535; omega⟩, ⟨by show (0 : Int) ≤ ((flagTo x.sets x.sets.length (x.fl ||| x.told % 16) x.sets.length : Nat) : Int); omega, by show ((flagTo x.sets x.sets.length (x.fl ||| x.told % 16) x.sets.length : Nat) : Int) ≤ 65535; omega⟩, r5, part_plain 0 (by show (partP x.sets 0).length ≤ 65535; omega) (hm 0), part_plain 1 (by show (partP x.sets 1).length ≤ 65535; omega) (hm 1), part_cat (hm 2) (opts_ok x r4) (by omega)⟩
  have hw := writ_le _ hok
  have hwl : whl (repMsg x x.sets.length) ≤ 311 + 97 * tot x.sets := by
    rw [e]
    show whlQ x.q + whlR (partP x.sets 0) + whlR (partP x.sets 1) + whlR (partP x.sets 2 ++ optsP x) ≤ _
    rw [whlR_cat]
    have k0 := whlR_97 _ (hs97 0)
    have k1 := whlR_97 _ (hs97 1)
    have k2 := whlR_97 _ (hs97 2)
    have k3 := opts_len x
    have k4 := ques_len r5 r6
    have k5 : 97 * ((partP x.sets 0).length + (partP x.sets 1).length + (partP x.sets 2).length) = 97 * tot x.sets := by rw [hlen]
    omega
  exact ⟨hok, by omega, by omega⟩

theorem fitting_all (x : Rep) (hr : RepOk x) (hp : Parted x.sets) (h2 : ∀ s, s ∈ x.sets → s.part ≤ 2) (hf : Fit x x.sets.length) {c : Nat} (h : Fitting x c) : c = x.sets.length :=
  fitting_one x hr.2.2.1 hr.2.2.2.1 hp h2 h ⟨Nat.le_refl _, .inr hf, .inl rfl⟩

/-- The sets of an answer are the zone's. -/
theorem take_sets (id fl : Nat) (m : MI) (l : List Ev) (stream : Bool) : Parted (takeP id fl m l stream).sets ∧ (∀ s, s ∈ (takeP id fl m l stream).sets → s.part ≤ 2) ∧ SubZ (recordsM l) (takeP id fl m l stream).sets ∧ tot (takeP id fl m l stream).sets ≤ 3 * (upM l).length + 8 := by
  unfold takeP
  split
  · split
    · obtain ⟨p1, p2⟩ := parted_sets (recordsM l) (smallP _) _
      exact ⟨p1, p2, (sets_all (recordsM l) _ _).1, few_tot l _ _⟩
    · exact ⟨List.Pairwise.nil, fun s hs => by simp at hs, SubZ.nil _, Nat.zero_le _⟩
  · exact ⟨List.Pairwise.nil, fun s hs => by simp at hs, SubZ.nil _, Nat.zero_le _⟩

/-- Over a stream, of few news, nothing is left out. -/
theorem stream_all (id : Nat) (m : MI) (l : List Ev) (hl : l.length ≤ 200) (hid : id < 65536) (hm : msgOk m) {c : Nat} (h : Fitting (takeP id (32768 ||| (m.flags.toNat &&& 30976)) m l true) c) : c = (takeP id (32768 ||| (m.flags.toNat &&& 30976)) m l true).sets.length := by
  obtain ⟨k1, k2⟩ := kept_bounds m.flags.toNat
  have hr := take_ok id (32768 ||| (m.flags.toNat &&& 30976)) m l true hid k1 k2 hm
  obtain ⟨p1, p2, p3, p4⟩ := take_sets id (32768 ||| (m.flags.toNat &&& 30976)) m l true
  have hlim : (takeP id (32768 ||| (m.flags.toNat &&& 30976)) m l true).lim = 65535 := (take_opt id (32768 ||| (m.flags.toNat &&& 30976)) m l true).2.1
  have hu := upM_len l
  refine fitting_all _ hr p1 p2 (rep_fit _ hr p1 p2 (fun s hs y hy => zone_ok ((p3 s hs).2.2.2 y hy)) ?_ ?_) h
  · rw [hlim]; omega
  · rw [hlim]; omega

/-- Something but extra records is left out. -/
def CutAt (S : List ST) (c : Nat) : Prop := ∃ i, c ≤ i ∧ ∃ h : i < S.length, S[i].part ≠ 2
end Go.Proofs.YtdhobdmhnocbgabGreat

namespace Go.Proofs.YtdhobdmhnocbgabGreat
open Go.RowKit Zr

def Turned (c d : Nat) : Prop := d = c ∨ (97 ≤ c ∧ c ≤ 122 ∧ d + 32 = c) ∨ (65 ≤ c ∧ c ≤ 90 ∧ d = c + 32)
/-- The same but for letters that are small or great. -/
def Flips (s t : ByteArray) : Prop := t.size = s.size ∧ ∀ i, i < s.size → Turned (bt s i) (bt t i)

theorem turned_low {c d : Nat} (h : Turned c d) : lowC d = lowC c := by
  unfold lowC
  rcases h with rfl | ⟨h1, h2, h3⟩ | ⟨h1, h2, rfl⟩
  · rfl
  · rw [if_pos (by omega), if_neg (by omega)]; omega
  · rw [if_neg (by omega), if_pos (by omega)]
theorem turned_few {c d : Nat} (h : Turned c d) (hc : c ≤ 64) : d = c := by
  rcases h with h | ⟨h1, h2, h3⟩ | ⟨h1, h2, h3⟩ <;> omega

theorem one_bt (n : Nat) (h : n < 256) : bt (one n) 0 = n := by
  show (UInt8.ofNat n).toNat = _
  rw [UInt8.toNat_ofNat_of_lt' (by simpa using h)]
theorem smallTo_bt (s : ByteArray) : ∀ j, ∀ i, i < j → bt (smallTo s j) i = lowC (bt s i)
  | 0, i, h => by omega
  | j + 1, i, h => by
    show bt (smallTo s j ++ one (lowC (bt s j))) i = _
    rw [bt_append, smallTo_size]
    by_cases c : i < j
    · rw [if_pos c]; exact smallTo_bt s j i c
    · have : i = j := by omega
      subst this
      rw [if_neg (by omega), Nat.sub_self, one_bt _ (lowC_lt (bt_lt s i))]
theorem small_bt (s : ByteArray) (i : Nat) (h : i < s.size) : bt (smallP s) i = lowC (bt s i) := smallTo_bt s s.size i h

theorem flips_small {s t : ByteArray} (h : Flips s t) : smallP t = smallP s := by
  refine bt_ext (by rw [smallP_size, smallP_size, h.1]) fun i hi => ?_
  rw [smallP_size] at hi
  have hi2 : i < s.size := by have := h.1; omega
  rw [small_bt t i hi, small_bt s i hi2, turned_low (h.2 i hi2)]
theorem flips_tl {s t : ByteArray} (h : Flips s t) {k : Nat} (hk : Tl s k) : Tl t k := by
  induction hk with
  | root k h1 h2 =>
    have h3 := turned_few (h.2 k (by omega)) (by omega)
    exact .root k (by rw [h.1]; exact h1) (by rw [h3]; exact h2)
  | lab k h1 h2 h3 ih =>
    have h4 := turned_few (h.2 k (by have := h3.lt; omega)) (by omega)
    exact .lab k (by omega) (by omega) (by rw [h4]; exact ih)
theorem flips_whole {s t : ByteArray} (h : Flips s t) (hs : wholeB s = true) : wholeB t = true := by
  obtain ⟨h1, h2⟩ := (whole_iff s).1 hs
  exact (whole_iff t).2 ⟨flips_tl h h1, by rw [h.1]; exact h2⟩

end Go.Proofs.YtdhobdmhnocbgabGreat

namespace Go.Proofs.YtdhobdmhnocbgabGreat
open Go.RowKit Zr

/-- The same question but for its letters. -/
def FlipQ (q r : QI) : Prop := Flips q.name r.name ∧ r.ty = q.ty ∧ r.cl = q.cl
def FlipL (a b : List QI) : Prop := b.length = a.length ∧ ∀ i (h : i < a.length) (k : i < b.length), FlipQ a[i] b[i]

theorem FlipL.nil : FlipL [] [] := ⟨rfl, fun i h => by simp at h⟩
theorem FlipL.push {a b : List QI} (h : FlipL a b) {q r : QI} (hq : FlipQ q r) : FlipL (a ++ [q]) (b ++ [r]) := by
  refine ⟨by rw [List.length_append, List.length_append, h.1]; rfl, fun i h1 h2 => ?_⟩
  rw [List.length_append] at h1 h2
  by_cases c : i < a.length
  · rw [List.getElem_append_left c, List.getElem_append_left (by have := h.1; omega)]
    exact h.2 i c (by have := h.1; omega)
  · have e : i = a.length := by simp at h1; omega
    have e2 : i = b.length := by have := h.1; omega
    subst e
    rw [List.getElem_append_right (Nat.le_refl _), List.getElem_append_right (by omega)]
    simp only [Nat.sub_self, e2]
    exact hq

theorem flip_ok {m : MI} (h : QueM m) {L : List QI} (hL : FlipL m.q L) : QueM ⟨m.id, m.flags, L, m.a, m.u, m.x⟩ := by
  obtain ⟨ok, fl, q2, a0, u0, x1⟩ := h
  obtain ⟨o1, o2, o3, o4, o5, o6⟩ := ok
  refine ⟨⟨o1, o2, ⟨by show L.length ≤ 65535; rw [hL.1]; exact o3.1, fun i hi => ?_⟩, o4, o5, o6⟩, fl, by show L.length ≤ 2; rw [hL.1]; exact q2, a0, u0, x1⟩
  have hi2 : i < m.q.length := by rw [← hL.1]; exact hi
  obtain ⟨f1, f2, f3⟩ := hL.2 i hi2 hi
  obtain ⟨k1, k2, k3⟩ := o3.2 i hi2
  refine ⟨flips_whole f1 k1, ?_, ?_⟩
  · show wordOk L[i].ty
    rw [f2]; exact k2
  · show wordOk L[i].cl
    rw [f3]; exact k3

theorem refusal_flip {q r : QI} (h : FlipQ q r) (f s : Nat) : refusalP f s r = refusalP f s q := by
  unfold refusalP
  rw [flips_small h.1, h.2.2]

/-- The reply is the same but for the question. -/
theorem take_flip (id fl : Nat) (m : MI) (l : List Ev) {L : List QI} (hL : FlipL m.q L) : ∃ q', takeP id fl ⟨m.id, m.flags, L, m.a, m.u, m.x⟩ l true = { takeP id fl m l true with q := q' } ∧ (L.length = 1 → q' = L) := by
  obtain ⟨mi, mf, mq, ma, mu, mx⟩ := m
  simp only at hL ⊢
  match mq, L, hL with
  | [], [], _ => exact ⟨[], rfl, fun h => by simp at h⟩
  | [], _ :: _, h => have := h.1; simp at this
  | _ :: _, [], h => have := h.1; simp at this
  | [q], [r], h =>
    have hq : FlipQ q r := h.2 0 (by simp) (by simp)
    refine ⟨[r], ?_, fun _ => rfl⟩
    unfold takeP
    simp only
    rw [refusal_flip hq, flips_small hq.1, hq.2.1]
    split <;> rfl
  | [_], _ :: _ :: _, h => have := h.1; simp at this
  | _ :: _ :: _, [_], h => have := h.1; simp at this
  | _ :: _ :: _, _ :: _ :: _, _ => exact ⟨[], rfl, fun h => by simp at h⟩

theorem rep_q (x : Rep) (q' : List QI) (c : Nat) : (repMsg { x with q := q' } c).a = (repMsg x c).a ∧ (repMsg { x with q := q' } c).u = (repMsg x c).u ∧ (repMsg { x with q := q' } c).x = (repMsg x c).x ∧ (repMsg { x with q := q' } c).flags = (repMsg x c).flags ∧ (repMsg { x with q := q' } c).q = q' := ⟨rfl, rfl, rfl, rfl, rfl⟩

end Go.Proofs.YtdhobdmhnocbgabGreat

namespace Go.Proofs.YtdhobdmhnocbgabGreat
open Go.RowKit Zr

theorem flips_push {s B : ByteArray} {j c : Nat} (hB : B.size = j) (h : ∀ i, i < j → Turned (bt s i) (bt B i)) (hc : Turned (bt s j) c) (hl : c < 256) : (B ++ one c).size = j + 1 ∧ ∀ i, i < j + 1 → Turned (bt s i) (bt (B ++ one c) i) := by
  refine ⟨by rw [ByteArray.size_append, hB]; rfl, fun i hi => ?_⟩
  rw [bt_append, hB]
  by_cases q : i < j
  · rw [if_pos q]; exact h i q
  · have : i = j := by omega
    subst this
    rw [if_neg (by omega), Nat.sub_self, one_bt c hl]
    exact hc

set_option maxRecDepth 100000 in
set_option maxHeartbeats 2000000 in
theorem flipped_k (s : ByteArray) (v : Int) (w : World) (hs : s.size ≤ 4294967296) :
    Calls Tryz.prog 23 #[.string s, .int .i64 v] w fun e w' => (∃ t, Flips s t ∧ e = .returned (.string t)) ∧ Below w.heap.size w w' := by
  obtain ⟨i0, hi, hz0, hz1, hz2⟩ := info_parts Tryz.info5
  have Hi := hide hi
  have Hz0 := hide hz0
  have Hz1 := hide hz1
  have Hz2 := hide hz2
  clear hi hz0 hz1 hz2
  obtain ⟨N, hN⟩ : ∃ N, w.heap.size = N := ⟨_, rfl⟩
  rw [hN]
  go_enter Tryz.func23, Tryz.ntmps23
  go_wp2_with fail
  go_loopg [5, 6] (s.size + 1) (fun g vb vi w' => ∃ (j : Nat) (ab : Option Addr) (cb : Nat) (B : ByteArray), vi = .int .i64 j ∧ j ≤ s.size ∧ g = s.size + 1 - j ∧ vb = .slice ab j cb ∧ Hid (B.size = j ∧ ∀ i, i < j → Turned (bt s i) (bt B i)) ∧ Hid (w'.ownsRow N 5 1 (.slice ab j cb) j (byteCells B)) ∧ Hid (Below N w w') ∧ N ≤ w'.heap.size)
  case atStart => exact ⟨0, none, 0, ⟨#[]⟩, rfl, Nat.zero_le _, rfl, rfl, hide ⟨rfl, fun i h => by omega⟩, hide (World.ownsRow_nil _ _ _ _), hide (Below.refl _ _), by omega⟩
  case round =>
    obtain ⟨j, ab, cb, B, rfl, hj, rfl, rfl, HBt, HO, HB, hNw⟩ := hrel
    by_cases cj : j < s.size
    · have hg := bt_get s j cj
      have hlt := bt_lt s j
      have HP := hide (fun c (hc : Turned (bt s j) c) (hl : c < 256) => flips_push (unhide HBt).1 (unhide HBt).2 hc hl)
      have hm : 0 ≤ ((j : Int) % 62) := by omega
      generalize bt s j = c at *
      go_upto_region 7 with fail
      generalize (bits BinOp.and IntKind.i64 (v / 2 ^ (j % 62)) 1 == 1) = turn
      have hcase : ∃ d, d < 256 ∧ Turned c d ∧ ((d = c ∧ (turn = false ∨ c < 65 ∨ (90 < c ∧ c < 97) ∨ 122 < c)) ∨ (turn = true ∧ 97 ≤ c ∧ c ≤ 122 ∧ d + 32 = c) ∨ (turn = true ∧ 65 ≤ c ∧ c ≤ 90 ∧ d = c + 32)) := by
        cases turn with
        | false => exact ⟨c, hlt, .inl rfl, .inl ⟨rfl, .inl rfl⟩⟩
        | true =>
          by_cases q1 : 97 ≤ c ∧ c ≤ 122
          · exact ⟨c - 32, by omega, .inr (.inl ⟨q1.1, q1.2, by omega⟩), .inr (.inl ⟨rfl, q1.1, q1.2, by omega⟩)⟩
          · by_cases q2 : 65 ≤ c ∧ c ≤ 90
            · exact ⟨c + 32, by omega, .inr (.inr ⟨q2.1, q2.2, rfl⟩), .inr (.inr ⟨rfl, q2.1, q2.2, rfl⟩)⟩
            · exact ⟨c, hlt, .inl rfl, .inl ⟨rfl, .inr (by omega)⟩⟩
      obtain ⟨d, hd, htd, hcase⟩ := hcase
      have HP2 := hide (unhide HP d htd hd)
      clear HP htd
      rcases hcase with ⟨rfl, rfl | q | q | q⟩ | ⟨rfl, q1, q2, q3⟩ | ⟨rfl, q1, q2, q3⟩
      · go_wp2_with (at_builtin; refine wpList_append_row _ rfl _ _ 70 70 rfl N 5 i0 (.int .u8 0) 1 1 Tryz.underlying70 (unhide Hi) (unhide Hz0) (unhide Hz1) (unhide Hz2) rfl (.slice ab j cb) j (byteCells B) (by rfl) ((unhide HO).alloc _) (.slice (some ⟨wr.heap.size, 0, none⟩) 1 1) 1 [.int .u8 (d : Nat)] (by rfl) (Src.ofSlice _ Tryz.underlying70 ⟨wr.heap.size, 0, none⟩ 1 1 _ rfl (an_cell1 _ _ _ _ rfl) (fun x hx => by simp at hx; rcases hx with rfl <;> rfl)) (by unfold maxLen; omega) (by omega) (by simp; omega) ?_; intro a1 e1 w2 hown2 hgrow2 hat2)
        go_roundg (s.size + 1 - (j + 1))
        case measure => omega
        case rel =>
          refine ⟨j + 1, a1, e1, B ++ one d, by go_num, by omega, rfl, rfl, HP2, ?_, hide (((unhide HB).alloc hNw _).trans (below_append ((unhide HO).alloc _) hgrow2 (by simp; omega))), ?_⟩
          · rw [byteCells_append, one_cells _ hd]; exact hide hown2
          · have := hgrow2.size; simp at this; omega
      · cases turn
        all_goals
          go_wp2_with (at_builtin; refine wpList_append_row _ rfl _ _ 70 70 rfl N 5 i0 (.int .u8 0) 1 1 Tryz.underlying70 (unhide Hi) (unhide Hz0) (unhide Hz1) (unhide Hz2) rfl (.slice ab j cb) j (byteCells B) (by rfl) ((unhide HO).alloc _) (.slice (some ⟨wr.heap.size, 0, none⟩) 1 1) 1 [.int .u8 (d : Nat)] (by rfl) (Src.ofSlice _ Tryz.underlying70 ⟨wr.heap.size, 0, none⟩ 1 1 _ rfl (an_cell1 _ _ _ _ rfl) (fun x hx => by simp at hx; rcases hx with rfl <;> rfl)) (by unfold maxLen; omega) (by omega) (by simp; omega) ?_; intro a1 e1 w2 hown2 hgrow2 hat2)
          go_roundg (s.size + 1 - (j + 1))
          case measure => omega
          case rel =>
            refine ⟨j + 1, a1, e1, B ++ one d, by go_num, by omega, rfl, rfl, HP2, ?_, hide (((unhide HB).alloc hNw _).trans (below_append ((unhide HO).alloc _) hgrow2 (by simp; omega))), ?_⟩
            · rw [byteCells_append, one_cells _ hd]; exact hide hown2
            · have := hgrow2.size; simp at this; omega
      · cases turn
        all_goals
          go_wp2_with (at_builtin; refine wpList_append_row _ rfl _ _ 70 70 rfl N 5 i0 (.int .u8 0) 1 1 Tryz.underlying70 (unhide Hi) (unhide Hz0) (unhide Hz1) (unhide Hz2) rfl (.slice ab j cb) j (byteCells B) (by rfl) ((unhide HO).alloc _) (.slice (some ⟨wr.heap.size, 0, none⟩) 1 1) 1 [.int .u8 (d : Nat)] (by rfl) (Src.ofSlice _ Tryz.underlying70 ⟨wr.heap.size, 0, none⟩ 1 1 _ rfl (an_cell1 _ _ _ _ rfl) (fun x hx => by simp at hx; rcases hx with rfl <;> rfl)) (by unfold maxLen; omega) (by omega) (by simp; omega) ?_; intro a1 e1 w2 hown2 hgrow2 hat2)
          go_roundg (s.size + 1 - (j + 1))
          case measure => omega
          case rel =>
            refine ⟨j + 1, a1, e1, B ++ one d, by go_num, by omega, rfl, rfl, HP2, ?_, hide (((unhide HB).alloc hNw _).trans (below_append ((unhide HO).alloc _) hgrow2 (by simp; omega))), ?_⟩
            · rw [byteCells_append, one_cells _ hd]; exact hide hown2
            · have := hgrow2.size; simp at this; omega
      · cases turn
        all_goals
          go_wp2_with (at_builtin; refine wpList_append_row _ rfl _ _ 70 70 rfl N 5 i0 (.int .u8 0) 1 1 Tryz.underlying70 (unhide Hi) (unhide Hz0) (unhide Hz1) (unhide Hz2) rfl (.slice ab j cb) j (byteCells B) (by rfl) ((unhide HO).alloc _) (.slice (some ⟨wr.heap.size, 0, none⟩) 1 1) 1 [.int .u8 (d : Nat)] (by rfl) (Src.ofSlice _ Tryz.underlying70 ⟨wr.heap.size, 0, none⟩ 1 1 _ rfl (an_cell1 _ _ _ _ rfl) (fun x hx => by simp at hx; rcases hx with rfl <;> rfl)) (by unfold maxLen; omega) (by omega) (by simp; omega) ?_; intro a1 e1 w2 hown2 hgrow2 hat2)
          go_roundg (s.size + 1 - (j + 1))
          case measure => omega
          case rel =>
            refine ⟨j + 1, a1, e1, B ++ one d, by go_num, by omega, rfl, rfl, HP2, ?_, hide (((unhide HB).alloc hNw _).trans (below_append ((unhide HO).alloc _) hgrow2 (by simp; omega))), ?_⟩
            · rw [byteCells_append, one_cells _ hd]; exact hide hown2
            · have := hgrow2.size; simp at this; omega
      · go_wp2_with (at_builtin; refine wpList_append_row _ rfl _ _ 70 70 rfl N 5 i0 (.int .u8 0) 1 1 Tryz.underlying70 (unhide Hi) (unhide Hz0) (unhide Hz1) (unhide Hz2) rfl (.slice ab j cb) j (byteCells B) (by rfl) ((unhide HO).alloc _) (.slice (some ⟨wr.heap.size, 0, none⟩) 1 1) 1 [.int .u8 ((c : Int) - 97 + 65)] (by rfl) (Src.ofSlice _ Tryz.underlying70 ⟨wr.heap.size, 0, none⟩ 1 1 _ rfl (an_cell1 _ _ _ _ rfl) (fun x hx => by simp at hx; rcases hx with rfl <;> rfl)) (by unfold maxLen; omega) (by omega) (by simp; omega) ?_; intro a1 e1 w2 hown2 hgrow2 hat2)
        go_roundg (s.size + 1 - (j + 1))
        case measure => omega
        case rel =>
          refine ⟨j + 1, a1, e1, B ++ one d, by go_num, by omega, rfl, rfl, HP2, ?_, hide (((unhide HB).alloc hNw _).trans (below_append ((unhide HO).alloc _) hgrow2 (by simp; omega))), ?_⟩
          · have e3 : ((c : Int) - 97 + 65) = ((d : Nat) : Int) := by omega
            rw [e3] at hown2
            rw [byteCells_append, one_cells _ hd]; exact hide hown2
          · have := hgrow2.size; simp at this; omega
      · go_wp2_with (at_builtin; refine wpList_append_row _ rfl _ _ 70 70 rfl N 5 i0 (.int .u8 0) 1 1 Tryz.underlying70 (unhide Hi) (unhide Hz0) (unhide Hz1) (unhide Hz2) rfl (.slice ab j cb) j (byteCells B) (by rfl) ((unhide HO).alloc _) (.slice (some ⟨wr.heap.size, 0, none⟩) 1 1) 1 [.int .u8 ((c : Int) - 65 + 97)] (by rfl) (Src.ofSlice _ Tryz.underlying70 ⟨wr.heap.size, 0, none⟩ 1 1 _ rfl (an_cell1 _ _ _ _ rfl) (fun x hx => by simp at hx; rcases hx with rfl <;> rfl)) (by unfold maxLen; omega) (by omega) (by simp; omega) ?_; intro a1 e1 w2 hown2 hgrow2 hat2)
        go_roundg (s.size + 1 - (j + 1))
        case measure => omega
        case rel =>
          refine ⟨j + 1, a1, e1, B ++ one d, by go_num, by omega, rfl, rfl, HP2, ?_, hide (((unhide HB).alloc hNw _).trans (below_append ((unhide HO).alloc _) hgrow2 (by simp; omega))), ?_⟩
          · have e3 : ((c : Int) - 65 + 97) = ((d : Nat) : Int) := by omega
            rw [e3] at hown2
            rw [byteCells_append, one_cells _ hd]; exact hide hown2
          · have := hgrow2.size; simp at this; omega
    · have ej : j = s.size := by omega
      subst ej
      have ho := unhide HO
      have hF : Flips s B := unhide HBt
      have eB := hF.1
      have HF := hide hF
      rw [← eB] at ho
      clear hF
      go_wp2_with fail
      rw [← eB]
      rw [run_bytes_row _ 70 9 5 Tryz.underlying70 Tryz.underlying5 Tryz.underlying9 N _ B ho]
      clear ho
      go_wp2_with fail
      go_ret
      exact ⟨⟨B, unhide HF, rfl⟩, unhide HB⟩

end Go.Proofs.YtdhobdmhnocbgabGreat

namespace Go.Proofs.YtdhobdmhnocbgabGreat
open Go.RowKit Zr

theorem sized_mem {L M : List Ev} (h : ∀ x, x ∈ M → x ∈ L) (hz : EvSized L) : EvSized M := by
  intro i hi
  have hm := h _ (List.getElem_mem hi)
  obtain ⟨k, hk, e⟩ := List.getElem_of_mem hm
  rw [← e]
  exact hz k hk

end Go.Proofs.YtdhobdmhnocbgabGreat

namespace Go.Proofs.YtdhobdmhnocbgabGreat
open Go.RowKit Zr

theorem row_front {w : World} {N : Nat} {a : Option Addr} {xs ys : List Value} (h : RowAt w N a (xs ++ ys)) : RowAt w N a xs := by
  intro hx
  obtain ⟨b, o, h1, h2, h3⟩ := h (fun e => hx (List.append_eq_nil_iff.1 e).1)
  refine ⟨b, o, h1, h2, fun j u hu => h3 j u ?_⟩
  rw [List.getElem?_append_left (List.getElem?_eq_some_iff.1 hu).1]
  exact hu
theorem row_takeE {w : World} {N : Nat} {a : Option Addr} {l : List Ev} (h : RowAt w N a (evC l)) (k : Nat) : RowAt w N a (evC (l.take k)) := by
  rw [← List.take_append_drop k l, evC_append] at h
  exact row_front h

set_option maxRecDepth 100000 in
set_option maxHeartbeats 2000000 in
theorem few_k (l : List Ev) (a : Option Addr) (c N : Nat) (w : World) (h : RowAt w N a (evC l)) (hc : l.length ≤ c) (hl : l.length ≤ 9223372036854775807) :
    Calls Tryz.prog 27 #[.slice a l.length c] w fun e w' => e = .returned (.slice a (l.take 200).length c) ∧ w' = w := by
  by_cases h2 : 200 < l.length
  · obtain ⟨b, o, rfl, hb, _⟩ := row_e h 0 (by omega)
    have hlen : (l.take 200).length = 200 := by rw [List.length_take]; omega
    rw [hlen]
    clear h
    have q1 : (200 : Int) ≤ (c : Int) := by omega
    go_enter Tryz.func27, Tryz.ntmps27
    go_wp2_with fail
    go_ret
    exact ⟨rfl, rfl⟩
  · have hlen : (l.take 200).length = l.length := by rw [List.length_take]; omega
    rw [hlen]
    clear h
    go_enter Tryz.func27, Tryz.ntmps27
    go_wp2_with fail
    go_ret
    exact ⟨rfl, rfl⟩

end Go.Proofs.YtdhobdmhnocbgabGreat

namespace Go.Proofs.YtdhobdmhnocbgabGreat
open Go.RowKit Zr

set_option maxRecDepth 100000 in
set_option maxHeartbeats 2000000 in
theorem sameParts_k (i i' f f' : Int) (a u x : List RI) (a1 : Option Addr) (n1 c1 : Nat) (a2 : Option Addr) (c2 : Nat) (a3 : Option Addr) (c3 : Nat) (a4 : Option Addr) (c4 : Nat) (b1 : Option Addr) (m1 d1 : Nat) (b2 : Option Addr) (d2 : Nat) (b3 : Option Addr) (d3 : Nat) (b4 : Option Addr) (d4 : Nat) (N : Nat) (w : World) (hN : N ≤ w.heap.size)
    (o2 : RowAt w N a2 (rcI a)) (o3 : RowAt w N a3 (rcI u)) (o4 : RowAt w N a4 (rcI x)) (r2 : RowAt w N b2 (rcI a)) (r3 : RowAt w N b3 (rcI u)) (r4 : RowAt w N b4 (rcI x)) (l1 : a.length ≤ 65535) (l2 : u.length ≤ 65535) (l3 : x.length ≤ 65535) :
    Calls Tryz.prog 28 #[.agg #[.int .i64 i, .int .i64 f, .slice a1 n1 c1, .slice a2 a.length c2, .slice a3 u.length c3, .slice a4 x.length c4], .agg #[.int .i64 i', .int .i64 f', .slice b1 m1 d1, .slice b2 a.length d2, .slice b3 u.length d3, .slice b4 x.length d4]] w fun e w' => e = .returned (.bool true) ∧ Below w.heap.size w w' := by
  have hb : ∀ A B n, Below w.heap.size w (((w.alloc A).alloc B).drewN n) := fun A B n => below_drewK (((Below.refl _ _).alloc (Nat.le_refl _) _).alloc (by simp) _) n
  have key2 := fun W (h : ∃ A B n, W = ((w.alloc A).alloc B).drewN n) => sameRecordsK a a2 b2 c2 d2 N N W (by obtain ⟨A, B, n, rfl⟩ := h; exact o2.below ((hb A B n).mono hN)) (by obtain ⟨A, B, n, rfl⟩ := h; exact r2.below ((hb A B n).mono hN)) (by omega)
  have key3 := fun W (h : ∃ A B n, W = ((w.alloc A).alloc B).drewN n) => sameRecordsK u a3 b3 c3 d3 N N W (by obtain ⟨A, B, n, rfl⟩ := h; exact o3.below ((hb A B n).mono hN)) (by obtain ⟨A, B, n, rfl⟩ := h; exact r3.below ((hb A B n).mono hN)) (by omega)
  have key4 := fun W (h : ∃ A B n, W = ((w.alloc A).alloc B).drewN n) => sameRecordsK x a4 b4 c4 d4 N N W (by obtain ⟨A, B, n, rfl⟩ := h; exact o4.below ((hb A B n).mono hN)) (by obtain ⟨A, B, n, rfl⟩ := h; exact r4.below ((hb A B n).mono hN)) (by omega)
  have K2 := hide key2
  have K3 := hide key3
  have K4 := hide key4
  have HB := hide hb
  clear key2 key3 key4 o2 o3 o4 r2 r3 r4 hb
  go_enter Tryz.func28, Tryz.ntmps28
  go_wp2_with fail
  refine (unhide K2 _ ⟨_, _, 0, rfl⟩).mono ?_
  rintro e w1 ⟨rfl, n2, rfl⟩
  go_wp2_with fail
  refine (unhide K3 _ ⟨_, _, n2, rfl⟩).mono ?_
  rintro e w1 ⟨rfl, n3, rfl⟩
  go_wp2_with fail
  refine (unhide K4 _ ⟨_, _, n2 + n3, rfl⟩).mono ?_
  rintro e w1 ⟨rfl, n4, rfl⟩
  go_wp2_with fail
  go_ret
  exact ⟨rfl, unhide HB _ _ _⟩

theorem qcI_more (l : List QI) (q : QI) : qcI (l ++ [q]) = qcI l ++ [.string q.name, .int .i64 q.ty, .int .i64 q.cl] := by unfold qcI; rw [List.flatMap_append]; rfl
theorem ca_cell3 (w : World) (B : Nat) (x0 x1 x2 : Value) (t : TypeId) (h : w.heap.size = B) : ∀ j u, [x0, x1, x2][j]? = some u → (w.alloc (.cells #[x0, x1, x2] t)).cell? ((⟨B, 0, none⟩ : Addr).add j) = some u := by
  subst h
  exact World.news_of_block (cs := #[x0, x1, x2]) (heap_alloc_new w _)
theorem ca_one3 {n : ByteArray} {t c : Int} : ∀ x, x ∈ ([.string n, .int .i64 t, .int .i64 c] : List Value) → x.oneCell' = true := by
  intro x hx
  simp only [List.mem_cons, List.mem_nil_iff, or_false] at hx
  rcases hx with rfl | rfl | rfl <;> rfl
theorem owns_set_low {w : World} {N X : Nat} {e : TypeId} {size : Nat} {v : Value} {n : Nat} {xs : List Value} (h : w.ownsRow N e size v n xs) (hX : X < N) (j : Nat) (u : Value) : (w.setCell ⟨X, j, none⟩ u).ownsRow N e size v n xs := by
  refine ⟨h.1, ?_⟩
  rcases h.2 with q | ⟨g, cap, cur, q1, q2, q3, q4⟩
  · exact .inl q
  · exact .inr ⟨g, cap, cur, q1, q2, (blk_set_other (by omega) _ _).trans q3, q4⟩

theorem owns_set_new {w : World} {N X : Nat} {e : TypeId} {size : Nat} {v : Value} {n : Nat} {xs : List Value} (h : w.ownsRow N e size v n xs) (hX : ∀ g, v.ownBlock = some g → g ≠ X) (j : Nat) (u : Value) : (w.setCell ⟨X, j, none⟩ u).ownsRow N e size v n xs := by
  refine ⟨h.1, ?_⟩
  rcases h.2 with q | ⟨g, cap, cur, q1, q2, q3, q4⟩
  · exact .inl q
  · exact .inr ⟨g, cap, cur, q1, q2, (blk_set_other (hX g (by rw [q1]; rfl)) _ _).trans q3, q4⟩

set_option maxRecDepth 100000 in
set_option maxHeartbeats 4000000 in
theorem cased_k (l : List Ev) (al : Option Addr) (cl : Nat) (a : Option Addr) (n c : Nat) (caps : Int) (w : World) (hE0 : RowAt w w.heap.size al (evC l)) (hcl : l.length ≤ cl) (hl0 : l.length ≤ 9223372036854775807) (hz0 : EvSized l) (hraw : RawAt w w.heap.size a n) (hn : n ≤ 9223372036854775807) :
    Calls Tryz.prog 6 #[.slice al l.length cl, .slice a n c, .int .i64 caps] w fun e w' => e = .returned (.bool true) ∧ Below w.heap.size w w' := by
  have KF := hide (few_k l al cl w.heap.size w hE0 hcl hl0)
  have hE := row_takeE hE0 200
  have hz : EvSized (l.take 200) := sized_mem (fun x hx => List.mem_of_mem_take hx) hz0
  have hL : (l.take 200).length ≤ 200 := by rw [List.length_take]; omega
  clear hE0 hz0
  generalize l.take 200 = L at *
  have ka := asked_k L al cl a n c w hE (by omega) hz hraw hn
  have KA := hide ka
  have HE := hide hE
  have HZ := hide hz
  obtain ⟨i0, hi, hz0, hz1, hz2⟩ := info_parts Tryz.info39
  have Hi := hide hi
  have Hz0 := hide hz0
  have Hz1 := hide hz1
  have Hz2 := hide hz2
  clear hi hz0 hz1 hz2 ka hE hraw hz
  go_enter Tryz.func6, Tryz.ntmps6
  go_wp2_with fail
  refine (unhide KF).mono ?_
  rintro e w0 ⟨rfl, rfl⟩
  clear KF
  go_wp2_with fail
  refine (unhide KA).mono ?_
  rintro e w1 ⟨m, v, rfl, hQ, hM, hb1⟩
  have HM := hide hM
  have HQ := hide hQ
  have HB1 := hide hb1
  obtain ⟨a1, c1, a2, c2, a3, c3, a4, c4, rfl, hr1, hr2, hr3, hr4, _, _, _, _, k1, k2, k3, k4⟩ := hM
  have HR1 := hide hr1
  have HR2 := hide hr2
  have HR3 := hide hr3
  have HR4 := hide hr4
  have hnq := hQ.q2
  obtain ⟨sb, hsb⟩ : ∃ sb, (writ m.nat).1 = sb := ⟨_, rfl⟩
  rw [hsb]
  have HSb := hide hsb
  clear hr1 hr2 hr3 hr4 hQ hb1 KA hsb
  obtain ⟨hM2, hN2⟩ := two_new w1 (.cells #[.int .i64 m.id, .int .i64 m.flags, .slice a1 m.q.length c1, .slice a2 m.a.length c2, .slice a3 m.u.length c3, .slice a4 m.x.length c4] 27) (.cells #[.int .i64 m.id, .int .i64 m.flags, .slice none 0 0, .slice a2 m.a.length c2, .slice a3 m.u.length c3, .slice a4 m.x.length c4] 27)
  have hb2 := ((Below.refl w1.heap.size w1).alloc (Nat.le_refl _) (.cells #[.int .i64 m.id, .int .i64 m.flags, .slice a1 m.q.length c1, .slice a2 m.a.length c2, .slice a3 m.u.length c3, .slice a4 m.x.length c4] 27)).alloc (by simp) (.cells #[.int .i64 m.id, .int .i64 m.flags, .slice none 0 0, .slice a2 m.a.length c2, .slice a3 m.u.length c3, .slice a4 m.x.length c4] 27)
  have hs2 : w1.heap.size + 2 ≤ ((w1.alloc (.cells #[.int .i64 m.id, .int .i64 m.flags, .slice a1 m.q.length c1, .slice a2 m.a.length c2, .slice a3 m.u.length c3, .slice a4 m.x.length c4] 27)).alloc (.cells #[.int .i64 m.id, .int .i64 m.flags, .slice none 0 0, .slice a2 m.a.length c2, .slice a3 m.u.length c3, .slice a4 m.x.length c4] 27)).heap.size := by simp
  have HM2 := hide hM2
  have HN2 := hide hN2
  have HB2 := hide hb2
  clear hM2 hN2 hb2
  go_wp2_with fail
  generalize (w1.alloc (.cells #[.int .i64 m.id, .int .i64 m.flags, .slice a1 m.q.length c1, .slice a2 m.a.length c2, .slice a3 m.u.length c3, .slice a4 m.x.length c4] 27)).alloc (.cells #[.int .i64 m.id, .int .i64 m.flags, .slice none 0 0, .slice a2 m.a.length c2, .slice a3 m.u.length c3, .slice a4 m.x.length c4] 27) = w2 at *
  obtain ⟨M0, hM0⟩ : ∃ M0, w1.heap.size = M0 := ⟨_, rfl⟩
  rw [hM0] at HM2 HN2 HB2 hs2 HR1 ⊢
  have HM0 := hide hM0
  clear hM0
  go_loopg [11] (m.q.length + 1) (fun g vi w' => ∃ (j : Nat) (Lq : List QI) (aq : Option Addr) (cq : Nat), vi = .int .i64 j ∧ j ≤ m.q.length ∧ g = m.q.length + 1 - j ∧ Hid (FlipL (m.q.take j) Lq) ∧ Hid (w'.heap[M0]? = some (.cells #[.int .i64 m.id, .int .i64 m.flags, .slice a1 m.q.length c1, .slice a2 m.a.length c2, .slice a3 m.u.length c3, .slice a4 m.x.length c4] 27 (0, 0))) ∧ Hid (w'.heap[M0 + 1]? = some (.cells #[.int .i64 m.id, .int .i64 m.flags, .slice aq j cq, .slice a2 m.a.length c2, .slice a3 m.u.length c3, .slice a4 m.x.length c4] 27 (0, 0))) ∧ Hid (w'.ownsRow (M0 + 2) 39 3 (.slice aq j cq) j (qcI Lq)) ∧ Hid (Below M0 w1 w') ∧ M0 + 2 ≤ w'.heap.size)
  case atStart => exact ⟨0, [], none, 0, rfl, Nat.zero_le _, rfl, hide FlipL.nil, HM2, HN2, hide (World.ownsRow_nil _ _ _ _), HB2, hs2⟩
  case round =>
    obtain ⟨j, Lq, aq, cq, rfl, hj, rfl, HF, HMr, HNr, HO, HBr, hsr⟩ := hrel
    obtain ⟨⟨m0, m1, m2, m3, m4, m5⟩, _⟩ := cells6 (unhide HMr)
    have lM : M0 < wr.heap.size := by omega
    by_cases cj : j < m.q.length
    · obtain ⟨b, o, rfl, hb, x0, x1, x2⟩ := row_q ((unhide HR1).below (unhide HBr)) j cj
      have HF2 := hide (fun r (h : FlipQ m.q[j] r) => (unhide HF).push h)
      rw [← List.take_succ_eq_append_getElem cj] at HF2
      have hnl : m.q[j].name.size ≤ 255 := (whole_pos ((unhide HQ).ok.2.2.1.2 j cj).1).2
      obtain ⟨k, hk⟩ : ∃ k, m.q[j] = k := ⟨_, rfl⟩
      rw [hk] at HF2 x0 x1 x2 hnl
      obtain ⟨nm, ty, kl⟩ := k
      simp only at x0 x1 x2 hnl
      have hbX := (Below.refl wr.heap.size wr).alloc (Nat.le_refl _) (.cells #[.string nm, .int .i64 ty, .int .i64 kl] 39)
      have hX2 := heap_alloc_new wr (.cells #[.string nm, .int .i64 ty, .int .i64 kl] 39)
      have HM3 := hide ((hbX.block M0 lM).trans (unhide HMr))
      have HN3 := hide ((hbX.block (M0 + 1) (by omega)).trans (unhide HNr))
      have HO3 := hide (owns_below (unhide HO) hbX)
      have HB3 := hide ((unhide HBr).trans (hbX.mono (by omega)))
      have HX3 := hide hX2
      have hog : ∀ g, (Value.slice aq j cq).ownBlock = some g → g ≠ wr.heap.size := fun g hg => by have := ((unhide HO).lt g hg).2; omega
      have hs3 := hbX.size
      have KFl := hide (flipped_k nm caps (wr.alloc (.cells #[.string nm, .int .i64 ty, .int .i64 kl] 39)) (by omega))
      clear hbX hX2 hk
      go_wp2_with fail
      clear m0 m1 m2 m3 m4 m5 x0 x1 x2
      generalize wr.alloc (.cells #[.string nm, .int .i64 ty, .int .i64 kl] 39) = w3 at *
      obtain ⟨X, hX⟩ : ∃ X, wr.heap.size = X := ⟨_, rfl⟩
      rw [hX] at HX3 hog hs3 lM hsr ⊢
      clear hX
      refine (unhide KFl).mono ?_
      rintro e w4 ⟨⟨t, ht, rfl⟩, hb4⟩
      have hX4 := (hb4.block X (blk_lt (unhide HX3))).trans (unhide HX3)
      have hM4 := (hb4.block M0 (blk_lt (unhide HM3))).trans (unhide HM3)
      have hN4 := (hb4.block (M0 + 1) (blk_lt (unhide HN3))).trans (unhide HN3)
      have hO4 := owns_below (unhide HO3) hb4
      have hB4 := (unhide HB3).trans (hb4.mono (by omega))
      have hs4 := hb4.size
      have hX5 := blk_set hX4 0 (.string t)
      have hM5 := (blk_set_other (w := w4) (k := M0) (R := X) (by omega) 0 (.string t)).trans hM4
      have hN5 := (blk_set_other (w := w4) (k := M0 + 1) (R := X) (by omega) 0 (.string t)).trans hN4
      have hO5 := owns_set_new hO4 hog 0 (.string t)
      have hB5 := hB4.setCell (p := ⟨X, 0, none⟩) (by show M0 ≤ X; omega) (.string t)
      have hsz5 : (w4.setCell ⟨X, 0, none⟩ (.string t)).heap.size = w4.heap.size := size_set _ _ _
      have HM5 := hide hM5
      have HN5 := hide hN5
      have HO5 := hide hO5
      have HB5 := hide hB5
      have HX5 := hide hX5
      obtain ⟨⟨x0, x1, x2⟩, y0, y1, y2⟩ := cells3 hX4
      have lX := blk_lt hX4
      have HF3 := hide (unhide HF2 ⟨t, ty, kl⟩ ⟨ht, rfl, rfl⟩)
      clear HF2 ht HM3 HN3 HO3 HB3 HX3 hX4 hM4 hN4 hO4 hB4 hX5 hM5 hN5 hO5 hB5 KFl hb4
      go_upto_region 12 with fail
      clear x0 x1 x2 y0 y1 y2 lX
      generalize w4.setCell ⟨X, 0, none⟩ (.string t) = w5 at *
      have hX5' : w5.heap[X]? = some (.cells #[.string t, .int .i64 ty, .int .i64 kl] 39 (0, 0)) := unhide HX5
      obtain ⟨⟨x0, x1, x2⟩, _⟩ := cells3 hX5'
      obtain ⟨⟨n0, n1, n2, n3, n4, n5⟩, _⟩ := cells6 (unhide HN5)
      have lX := blk_lt hX5'
      have lN := blk_lt (unhide HN5)
      have hs5 : M0 + 2 ≤ w5.heap.size := by omega
      clear hX5' HX5 hsz5 hs4 hs3
      go_wp2_with (at_builtin; refine wpList_append_row _ rfl _ _ 24 24 rfl (M0 + 2) 39 i0 (.agg #[.string ⟨#[]⟩, .int .i64 0, .int .i64 0]) 3 32 Tryz.underlying24 (unhide Hi) (unhide Hz0) (unhide Hz1) (unhide Hz2) rfl (.slice aq j cq) j (qcI Lq) (by rfl) ((unhide HO5).alloc _) (.slice (some ⟨w5.heap.size, 0, none⟩) 1 1) 1 [.string t, .int .i64 ty, .int .i64 kl] (by rfl) (Src.ofSlice _ Tryz.underlying24 ⟨w5.heap.size, 0, none⟩ 1 1 _ rfl (ca_cell3 _ _ _ _ _ _ rfl) ca_one3) (by unfold maxLen; omega) (by omega) (by simp; omega) ?_; intro a6 e6 w6 hown6 hgrow6 hat6; have hA6 := (Below.refl (M0 + 2) w5).alloc (by omega) (.cells #[.string t, .int .i64 ty, .int .i64 kl] 39); have hB6 := hA6.trans (below_append ((unhide HO5).alloc _) hgrow6 (Nat.le_trans (by omega) hA6.size)); have hs6 := Nat.le_trans hA6.size hgrow6.size; obtain ⟨⟨p0, p1, p2, p3, p4, p5⟩, r0, r1, r2, r3, r4, r5⟩ := cells6 ((hB6.block (M0 + 1) (by omega)).trans (unhide HN5)); have lN6 : M0 + 1 < w6.heap.size := by omega)
      go_roundg (m.q.length + 1 - (j + 1))
      case measure => omega
      case rel =>
        refine ⟨j + 1, Lq ++ [⟨t, ty, kl⟩], a6, e6, by go_num, by omega, rfl, HF3, hide ?_, hide ?_, hide ?_, hide ?_, ?_⟩
        · exact (blk_set_other (by omega) _ _).trans ((hB6.block M0 (by omega)).trans (unhide HM5))
        · exact blk_set ((hB6.block (M0 + 1) (by omega)).trans (unhide HN5)) 2 _
        · rw [qcI_more]; exact owns_set_low hown6 (by omega) 2 _
        · exact ((unhide HB5).trans (hB6.mono (by omega))).setCell (p := ⟨M0 + 1, 2, none⟩) (by show M0 ≤ M0 + 1; omega) _
        · rw [size_set]; omega
    · have ej : j = m.q.length := by omega
      subst ej
      have hF := unhide HF
      rw [List.take_length] at hF
      have hQ' := flip_ok (unhide HQ) hF
      have hlq : Lq.length = m.q.length := hF.1
      have hcq : Lq.length ≤ cq := by
        rcases (unhide HO).2 with ⟨_, q⟩ | ⟨g, cap, cur, q1, _, _, q4, _⟩
        · omega
        · cases q1; omega
      obtain ⟨z1, z2, z3, z4⟩ := msgOk_sized hQ'.ok
      have hs1 : w1.heap.size = M0 := unhide HM0
      have hBs := (unhide HBr).size
      have hMn : MsgAt wr wr.heap.size (.agg #[.int .i64 m.id, .int .i64 m.flags, .slice aq m.q.length cq, .slice a2 m.a.length c2, .slice a3 m.u.length c3, .slice a4 m.x.length c4]) ⟨m.id, m.flags, Lq, m.a, m.u, m.x⟩ := by
        refine ⟨aq, cq, a2, c2, a3, c3, a4, c4, by rw [hlq], owns_rowAt (unhide HO), ?_, ?_, ?_, z1, z2, z3, z4, hcq, k2, k3, k4⟩
        · have h9 := unhide HR2
          rw [hs1] at h9
          exact (h9.below (unhide HBr)).mono (by omega)
        · have h9 := unhide HR3
          rw [hs1] at h9
          exact (h9.below (unhide HBr)).mono (by omega)
        · have h9 := unhide HR4
          rw [hs1] at h9
          exact (h9.below (unhide HBr)).mono (by omega)
      have hqrow := owns_rowAt (unhide HO)
      have hsz := que_size (unhide HQ)
      have hsz' := que_size hQ'
      have hmute := not_mute m (unhide HQ).ok hsz (unhide HQ).fl
      have hmute' := not_mute _ hQ'.ok hsz' hQ'.fl
      have hid0 := (unhide HQ).ok.1.1
      have hid1 := (unhide HQ).ok.1.2
      have hb1' := unhide HB1
      have hBw : Below w0.heap.size w0 wr := hb1'.trans ((show Below w1.heap.size w1 wr by rw [hs1]; exact unhide HBr).mono hb1'.size)
      have ksA := fun (W : World) (hW : Below w0.heap.size w0 W) => answered_k L al cl w0.heap.size (writ m.nat).1 true W ((unhide HE).below hW) hW.size (by omega) (unhide HZ) hsz hmute
      have ksB := fun (W : World) (hW : Below w0.heap.size w0 W) => answered_k L al cl w0.heap.size (writ (MI.nat ⟨m.id, m.flags, Lq, m.a, m.u, m.x⟩)).1 true W ((unhide HE).below hW) hW.size (by omega) (unhide HZ) hsz' hmute'
      rw [rep_of L m true (unhide HQ).ok hsz] at ksA
      rw [rep_of L _ true hQ'.ok hsz'] at ksB
      obtain ⟨q', hq1, hq2⟩ := take_flip m.id.toNat (32768 ||| (m.flags.toNat &&& 30976)) m L hF
      obtain ⟨kk1, kk2⟩ := kept_bounds m.flags.toNat
      have hrT := take_ok m.id.toNat (32768 ||| (m.flags.toNat &&& 30976)) m L true (by omega) kk1 kk2 (unhide HQ).ok
      have hallA : ∀ d, Fitting (takeP m.id.toNat (32768 ||| (m.flags.toNat &&& 30976)) m L true) d → d = (takeP m.id.toNat (32768 ||| (m.flags.toNat &&& 30976)) m L true).sets.length ∧ msgOk (repMsg (takeP m.id.toNat (32768 ||| (m.flags.toNat &&& 30976)) m L true) d) := fun d h => ⟨stream_all m.id.toNat m L hL (by omega) (unhide HQ).ok h, (ans_ok _ hrT h).1⟩
      have hallB : ∀ d, Fitting (takeP m.id.toNat (32768 ||| (m.flags.toNat &&& 30976)) ⟨m.id, m.flags, Lq, m.a, m.u, m.x⟩ L true) d → d = (takeP m.id.toNat (32768 ||| (m.flags.toNat &&& 30976)) m L true).sets.length := fun d h => by
        have h9 := stream_all m.id.toNat ⟨m.id, m.flags, Lq, m.a, m.u, m.x⟩ L hL (by omega) hQ'.ok h
        have h8 : (takeP m.id.toNat (32768 ||| (m.flags.toNat &&& 30976)) ⟨m.id, m.flags, Lq, m.a, m.u, m.x⟩ L true).sets = (takeP m.id.toNat (32768 ||| (m.flags.toNat &&& 30976)) m L true).sets := by rw [hq1]
        exact h9.trans (by rw [← h8])
      have ksB' : ∀ (W : World), Below w0.heap.size w0 W → Calls Tryz.prog 9 #[.slice al L.length cl, .string (writ (MI.nat ⟨m.id, m.flags, Lq, m.a, m.u, m.x⟩)).1, .bool true] W fun e w' => AnsOut W (takeP m.id.toNat (32768 ||| (m.flags.toNat &&& 30976)) ⟨m.id, m.flags, Lq, m.a, m.u, m.x⟩ L true) e w' := ksB
      rw [hq1] at hallB ksB'
      have hqq : Lq.length = 1 → q' = Lq := hq2
      obtain ⟨y, hy⟩ : ∃ y, (takeP m.id.toNat (32768 ||| (m.flags.toNat &&& 30976)) m L true) = y := ⟨_, rfl⟩
      rw [hy] at ksA ksB' hallA hallB
      have KS := hide (zoneSerialize_any _ _ _ hMn)
      have HOk' := hide hQ'.ok
      obtain ⟨m', hm'⟩ : ∃ m' : MI, (⟨m.id, m.flags, Lq, m.a, m.u, m.x⟩ : MI) = m' := ⟨_, rfl⟩
      rw [hm'] at ksB' KS HOk' hsz'
      rw [unhide HSb] at ksA
      have KSA := hide ksA
      have KSB := hide ksB'
      have HAllA := hide hallA
      have HAllB := hide hallB
      have HBw := hide hBw
      have HQr := hide hqrow
      obtain ⟨⟨n0, n1, n2, n3, n4, n5⟩, _⟩ := cells6 (unhide HNr)
      have lN := blk_lt (unhide HNr)
      clear ksA ksB ksB' hallA hallB hq1 hq2 hQ' hMn hqrow hsz hmute hmute' hb1' hBw hF HF kk1 kk2 hrT hy hm' z1 z2 z3 z4 hcq hs1 HR1 HR2 HR3 HR4 HO HBr HMr HM2 HN2 HB2 hBs
      go_wp2_with fail
      refine (unhide KS).mono ?_
      rintro e w3 ⟨⟨s1, x, rfl, hs1⟩, hb3⟩
      have hs2 : s1 = (writ m'.nat).1 ∧ x = 0 := by
        rcases hs1 with ⟨k, _⟩ | ⟨_, k, _⟩ | ⟨_, _, k, k2⟩
        · exact absurd (unhide HOk') k
        · omega
        · exact ⟨k, k2⟩
      obtain ⟨rfl, rfl⟩ := hs2
      have HN3 := hide ((hb3.block (M0 + 1) lN).trans (unhide HNr))
      have HQ3 := hide (((unhide HQr).below hb3).mono hb3.size)
      have HB3 := hide ((unhide HBw).trans (hb3.mono (unhide HBw).size))
      obtain ⟨sb', hsb'⟩ : ∃ sb', (writ m'.nat).1 = sb' := ⟨_, rfl⟩
      rw [hsb'] at KSB ⊢
      clear n0 n1 n2 n3 n4 n5 lN hs1 hb3 KS HNr HQr HBw HOk' hsz' hsb'
      go_wp2_with fail
      refine (unhide KSA _ (unhide HB3)).mono ?_
      rintro e w4 ⟨d, va, rfl, hfd, hMa, hb4⟩
      obtain ⟨hd, hokA⟩ := unhide HAllA d hfd
      subst hd
      obtain ⟨A, hA⟩ : ∃ A, repMsg y y.sets.length = A := ⟨_, rfl⟩
      rw [hA] at hMa hokA ⊢
      obtain ⟨b1, d1, b2, d2, b3, d3, b4, d4, rfl, _, hrA, hrU, hrX, _⟩ := hMa
      have hlA := hokA.2.2.2.1.1
      have hlU := hokA.2.2.2.2.1.1
      have hlX := hokA.2.2.2.2.2.1
      have hb5 := (Below.refl w4.heap.size w4).alloc (Nat.le_refl _) (.cells #[.int .i64 A.id, .int .i64 A.flags, .slice b1 A.q.length d1, .slice b2 A.a.length d2, .slice b3 A.u.length d3, .slice b4 A.x.length d4] 27)
      have HA5 := hide (heap_alloc_new w4 (.cells #[.int .i64 A.id, .int .i64 A.flags, .slice b1 A.q.length d1, .slice b2 A.a.length d2, .slice b3 A.u.length d3, .slice b4 A.x.length d4] 27))
      have hb35 := hb4.trans (hb5.mono hb4.size)
      have HN5 := hide ((hb35.block (M0 + 1) (blk_lt (unhide HN3))).trans (unhide HN3))
      have HQ5 := hide (((unhide HQ3).below hb35).mono hb35.size)
      have HB5 := hide ((unhide HB3).trans (hb35.mono (unhide HB3).size))
      have HRa5 := hide ((hrA.below hb5).mono hb5.size)
      have HRu5 := hide ((hrU.below hb5).mono hb5.size)
      have HRx5 := hide ((hrX.below hb5).mono hb5.size)
      clear hokA hrA hrU hrX hb4 hb5 hb35 HN3 HQ3 HB3 KSA HAllA hfd
      go_wp2_with fail
      generalize w4.alloc (.cells #[.int .i64 A.id, .int .i64 A.flags, .slice b1 A.q.length d1, .slice b2 A.a.length d2, .slice b3 A.u.length d3, .slice b4 A.x.length d4] 27) = w5 at *
      generalize w4.heap.size = PA at *
      refine (unhide KSB _ (unhide HB5)).mono ?_
      rintro e w6 ⟨d, vb, rfl, hfd, hMb, hb6⟩
      have hd := unhide HAllB d hfd
      subst hd
      obtain ⟨g1, g2, g3, g4, g5⟩ := rep_q y q' y.sets.length
      obtain ⟨B, hB⟩ : ∃ B, repMsg { y with q := q' } y.sets.length = B := ⟨_, rfl⟩
      rw [hB] at hMb g1 g2 g3 g4 g5 ⊢
      rw [hA] at g1 g2 g3 g4
      obtain ⟨e1, f1, e2, f2, e3, f3, e4, f4, rfl, hsQ, hsA, hsU, hsX, _⟩ := hMb
      rw [g1] at hsA
      rw [g2] at hsU
      rw [g3] at hsX
      rw [g5] at hsQ
      have HBq := hide (show B.q.length = q'.length by rw [g5])
      rw [g1, g2, g3, g4]
      have hb7 := (Below.refl w6.heap.size w6).alloc (Nat.le_refl _) (.cells #[.int .i64 B.id, .int .i64 A.flags, .slice e1 B.q.length f1, .slice e2 A.a.length f2, .slice e3 A.u.length f3, .slice e4 A.x.length f4] 27)
      have HC7 := hide (heap_alloc_new w6 (.cells #[.int .i64 B.id, .int .i64 A.flags, .slice e1 B.q.length f1, .slice e2 A.a.length f2, .slice e3 A.u.length f3, .slice e4 A.x.length f4] 27))
      have hb57 := hb6.trans (hb7.mono hb6.size)
      have HA7 := hide ((hb57.block PA (blk_lt (unhide HA5))).trans (unhide HA5))
      have HN7 := hide ((hb57.block (M0 + 1) (blk_lt (unhide HN5))).trans (unhide HN5))
      have HQ7 := hide (((unhide HQ5).below hb57).mono hb57.size)
      have HB7 := hide ((unhide HB5).trans (hb57.mono (unhide HB5).size))
      have HSq7 := hide ((hsQ.below hb7).mono hb7.size)
      have KP := hide (sameParts_k A.id B.id A.flags A.flags A.a A.u A.x b1 A.q.length d1 b2 d2 b3 d3 b4 d4 e1 B.q.length f1 e2 f2 e3 f3 e4 f4 _ _ (Nat.le_refl _) (((unhide HRa5).below hb57).mono hb57.size) (((unhide HRu5).below hb57).mono hb57.size) (((unhide HRx5).below hb57).mono hb57.size) ((hsA.below hb7).mono hb7.size) ((hsU.below hb7).mono hb7.size) ((hsX.below hb7).mono hb7.size) hlA hlU hlX)
      obtain ⟨⟨m0', m1', m2', m3', m4', m5'⟩, _⟩ := cells6 (unhide HA7)
      obtain ⟨⟨n0', n1', n2', n3', n4', n5'⟩, _⟩ := cells6 (unhide HC7)
      have lA := blk_lt (unhide HA7)
      have lC := blk_lt (unhide HC7)
      clear hb6 hb7 hb57 hsQ hsA hsU hsX HRa5 HRu5 HRx5 HA5 HN5 HQ5 HB5 KSB HAllB hfd g1 g2 g3 g4 g5 hA hB
      go_wp2_with fail
      generalize w6.alloc (.cells #[.int .i64 B.id, .int .i64 A.flags, .slice e1 B.q.length f1, .slice e2 A.a.length f2, .slice e3 A.u.length f3, .slice e4 A.x.length f4] 27) = w7 at *
      generalize w6.heap.size = PB at *
      refine (unhide KP).mono ?_
      rintro e w8 ⟨rfl, hb8⟩
      have hA8 := (hb8.block PA (blk_lt (unhide HA7))).trans (unhide HA7)
      have hC8 := (hb8.block PB (blk_lt (unhide HC7))).trans (unhide HC7)
      have hN8 := (hb8.block (M0 + 1) (blk_lt (unhide HN7))).trans (unhide HN7)
      have HQ8 := hide (((unhide HQ7).below hb8).mono hb8.size)
      have HSq8 := hide (((unhide HSq7).below hb8).mono hb8.size)
      have HB8 := hide ((unhide HB7).trans (hb8.mono (unhide HB7).size))
      clear m0' m1' m2' m3' m4' m5' n0' n1' n2' n3' n4' n5' lA lC HA7 HC7 HN7 HQ7 HSq7 HB7 KP hb8
      obtain ⟨⟨m0', m1', m2', m3', m4', m5'⟩, _⟩ := cells6 hA8
      obtain ⟨⟨n0', n1', n2', n3', n4', n5'⟩, _⟩ := cells6 hC8
      obtain ⟨⟨p0, p1, p2, p3, p4, p5⟩, _⟩ := cells6 hN8
      have lA := blk_lt hA8
      have lC := blk_lt hC8
      have lN := blk_lt hN8
      have eff : (A.flags == A.flags) = true := by simp
      clear hA8 hC8 hN8
      by_cases cq1 : m.q.length = 1
      · have f9 : ((m.q.length : Int) == 1) = true := by rw [beq_iff_eq]; omega
        have hq9 : q' = Lq := hqq (by omega)
        have hsq := unhide HSq8
        have hqr := unhide HQ8
        have hBl := unhide HBq
        rw [hq9] at hsq hBl
        have KQ := hide (sameQuestionsK Lq e1 aq f1 cq _ _ w8 hsq hqr (by omega))
        rw [hlq, cq1] at KQ hBl
        rw [hBl] at n2'
        rw [cq1] at p2
        clear hsq hqr hBl hq9
        go_wp2_with fail
        refine (unhide KQ).mono ?_
        rintro e w9 ⟨rfl, nd, rfl⟩
        have HB9 := hide (below_drewA (unhide HB8) nd)
        have r1 : (w8.drewN nd).cell? ⟨PA, 1, none⟩ = some (.int .i64 A.flags) := m1'
        have r2 : (w8.drewN nd).cell? ⟨PB, 1, none⟩ = some (.int .i64 A.flags) := n1'
        have lA9 : PA < (w8.drewN nd).heap.size := lA
        have lC9 : PB < (w8.drewN nd).heap.size := lC
        generalize w8.drewN nd = w9 at *
        go_wp2_with fail
        go_ret
        exact ⟨rfl, unhide HB9⟩
      · have f9 : ((m.q.length : Int) == 1) = false := by rw [beq_eq_false_iff_ne]; omega
        go_wp2_with fail
        go_ret
        exact ⟨rfl, unhide HB8⟩

end Go.Proofs.YtdhobdmhnocbgabGreat
