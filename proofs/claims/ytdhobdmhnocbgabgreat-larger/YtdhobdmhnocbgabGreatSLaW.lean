/-
  Plain: news in another order, or told twice, make the same zone and the same answers.
-/
/-
  Plain: the zone's records: which there are, that they are well made, how many.
-/
/-
  Plain: of few news all sets of an answer fit over a stream; what a limit leaves of them, and what the flags say of it.
-/
/-
  Walks over zonekeep: the first news; how a list begins; the parts of two messages.
-/
/-
  Walks over zonekeep: Larger.
-/
import Derived.Test.YtdhobdmhnocbgabGreatSFiP
import Derived.Test.YtdhobdmhnocbgabGreatSNwC
import Derived.Test.YtdhobdmhnocbgabGreatSQuB
import Derived.Test.YtdhobdmhnocbgabGreatSKeepA
import Derived.Test.YtdhobdmhnocbgabGreatSFiV
namespace Go.Proofs.YtdhobdmhnocbgabGreat
open Go.RowKit Zr

theorem sized_mem {L M : List Ev} (h : ∀ x, x ∈ M → x ∈ L) (hz : EvSized L) : EvSized M := by
  intro i hi
  have hm := h _ (List.getElem_mem hi)
  obtain ⟨k, hk, e⟩ := List.getElem_of_mem hm
  rw [← e]
  exact hz k hk

end Go.Proofs.YtdhobdmhnocbgabGreat

namespace Go.Proofs.YtdhobdmhnocbgabGreat
open Go.RowKit Zr

theorem aliM_ok {up : List Ev} : ∀ {n : Nat} {e : Ev}, e ∈ aliM up (sortP (aliEs up)) n → e ∈ up ∧ e.alias ≠ ⟨#[]⟩ ∧ ¬ isUp up e.alias
  | 0, e, h => by simp [aliM] at h
  | n + 1, e, h => by
    unfold aliM at h
    split at h
    · next hn =>
      split at h
      · exact aliM_ok h
      · next hc =>
        rcases List.mem_append.1 h with h | h
        · exact aliM_ok h
        · rw [List.mem_singleton] at h
          have hn2 : ¬ isUp up (sortP (aliEs up))[n].key := fun q => hc (.inr q)
          obtain ⟨y, hy, he⟩ := List.mem_map.1 (sort_mem.1 (List.getElem_mem hn))
          rw [← he] at hn2 h
          simp only at hn2 h
          subst h
          obtain ⟨h1, h2⟩ := List.mem_filter.1 hy
          exact ⟨h1, of_decide_eq_true h2, hn2⟩
    · exact aliM_ok h

/-- The names that are told by an alias. -/
noncomputable def aliL (l : List Ev) : List Ev := aliM (upM l) (sortP (aliEs (upM l))) (sortP (aliEs (upM l))).length

theorem aliL_len (l : List Ev) : (aliL l).length ≤ (upM l).length := by
  have h3 := aliM_len (upM l) (sortP (aliEs (upM l))) (sortP (aliEs (upM l))).length
  rw [sort_length] at h3
  have h4 := aliEs_len (upM l) (upM l).length
  rw [List.take_length] at h4
  unfold aliL
  rw [sort_length]
  omega

/-- What a record of the zone is. -/
def inZ (l : List Ev) (x : RI) : Prop :=
  ((∃ k : Nat, x = madeR originB 6 (soaB k)) ∨ x = madeR originB 2 serverB) ∨
  (∃ u, u ∈ upM l ∧ (x = madeR (underP u.node) (kindOf u) u.addr ∨ (u.text ≠ ⟨#[]⟩ ∧ x = madeR (underP u.node) 16 (one u.text.size ++ u.text)))) ∨
  (∃ u, u ∈ upM l ∧ u.alias ≠ ⟨#[]⟩ ∧ ¬ isUp (upM l) u.alias ∧ x = cnR u) ∨
  ∃ u, u ∈ upM l ∧ x = srvR u

theorem nodeR_is {u : Ev} {x : RI} (h : x ∈ nodeR u) : x = madeR (underP u.node) (kindOf u) u.addr ∨ (u.text ≠ ⟨#[]⟩ ∧ x = madeR (underP u.node) 16 (one u.text.size ++ u.text)) := by
  unfold nodeR at h
  rcases List.mem_cons.1 h with h | h
  · exact .inl h
  · split at h
    · simp at h
    · next ht =>
      rw [List.mem_singleton] at h
      exact .inr ⟨ht, h⟩

theorem zone_mem {l : List Ev} {x : RI} (h : x ∈ recordsM l) : inZ l x := by
  unfold recordsM at h
  rcases List.mem_append.1 h with h | h
  · rcases List.mem_append.1 h with h | h
    · rcases List.mem_append.1 h with h | h
      · simp only [List.mem_cons, List.mem_nil_iff, or_false] at h
        rcases h with h | h
        · exact .inl (.inl ⟨_, h⟩)
        · exact .inl (.inr h)
      · obtain ⟨u, hu, hx⟩ := List.mem_flatMap.1 h
        exact .inr (.inl ⟨u, hu, nodeR_is hx⟩)
    · obtain ⟨u, hu, rfl⟩ := List.mem_map.1 h
      obtain ⟨h1, h2, h3⟩ := aliM_ok hu
      exact .inr (.inr (.inl ⟨u, h1, h2, h3, rfl⟩))
  · obtain ⟨u, hu, rfl⟩ := List.mem_map.1 h
    exact .inr (.inr (.inr ⟨u, hu, rfl⟩))

theorem up_good {l : List Ev} {u : Ev} (h : u ∈ upM l) : labelOk u.node ∧ aliveOk u := by
  obtain ⟨hg, hk⟩ := up_mem h
  obtain ⟨h1, _, _, h4⟩ := hg
  rcases h4 with h4 | ⟨_, h5⟩
  · rw [hk] at h4; exact absurd h4 (by decide)
  · exact ⟨h1, h5⟩

theorem rec_made {n d : ByteArray} (t : Nat) (hn : wholeB n = true) (ht : t ≤ 65535) (hd : wellD t d) : recOk (madeR n (t : Int) d) :=
  ⟨hn, ⟨by show (0 : Int) ≤ (t : Int); omega, by show (t : Int) ≤ 65535; omega⟩, ⟨by show (0 : Int) ≤ 1; decide, by show (1 : Int) ≤ 65535; decide⟩, ⟨by show (0 : Int) ≤ 30; decide, by show (30 : Int) ≤ 4294967295; decide⟩, by show wellD (t : Int).toNat d; rw [Int.toNat_natCast]; exact hd⟩

theorem server_whole : wholeB serverB = true := by kernel_rfl
theorem admin_whole : wholeB adminB = true := by kernel_rfl

theorem soa_well (k : Nat) : wellD 6 (soaB k) := by
  refine (wellD_two _).2 ⟨serverB, adminB, q4 k ++ (q4 3600 ++ (q4 600 ++ (q4 86400 ++ q4 30))), ?_, server_whole, admin_whole, ?_⟩
  · unfold soaB
    simp only [append_assoc']
  · simp only [ByteArray.size_append, q4_size]
theorem text_well (s : ByteArray) (h : s.size ≤ 60) : wellD 16 (one s.size ++ s) := by
  have hz : (one s.size ++ s).size = 1 + s.size := by rw [ByteArray.size_append]; rfl
  refine (wellD_flat _ 16 (by omega) (by omega)).2 ⟨by omega, ?_⟩
  have h1 := rowB_push ⟨#[]⟩ s s.size (by omega) rfl (by decide)
  rw [empty_append] at h1
  show ((one s.size ++ s).size != 0 && rowB (one s.size ++ s) 0 1) = true
  have h2 : rowB (one s.size ++ s) 0 1 = true := h1
  rw [h2, Bool.and_true, bne_iff_ne]
  omega
theorem srv_well (p : Nat) (s : ByteArray) (h1 : 1 ≤ s.size) (h2 : s.size ≤ 15) : wellD 33 (q4 0 ++ wd p ++ underP s) := by
  have hs1 : (q4 0 ++ wd p).size = 6 := by rw [ByteArray.size_append, q4_size, wd_size]
  have hu := under_whole h1 h2
  have hz : (q4 0 ++ wd p ++ underP s).size = 6 + (underP s).size := by rw [ByteArray.size_append, hs1]
  refine (wellD_flat _ 33 (by omega) (by omega)).2 ⟨by omega, ?_⟩
  show svcB _ = true
  rw [svc_whole _ (by omega)]
  have hx := extract_back (q4 0 ++ wd p) (underP s)
  rw [hs1] at hx
  rw [hx]
  exact hu.1

/-- A record of the zone is well made, no OPT, and short. -/
theorem zone_ok {l : List Ev} {x : RI} (h : x ∈ recordsM l) : recOk x ∧ x.ty ≠ 41 ∧ x.name.size + 10 + x.data.size ≤ 97 := by
  rcases zone_mem h with (⟨k, rfl⟩ | rfl) | ⟨u, hu, rfl | ⟨ht, rfl⟩⟩ | ⟨u, hu, ha, _, rfl⟩ | ⟨u, hu, rfl⟩
  · refine ⟨rec_made 6 origin_whole (by omega) (soa_well k), by show (6 : Int) ≠ 41; decide, ?_⟩
    show 10 + 10 + (soaB k).size ≤ 97
    unfold soaB
    simp only [ByteArray.size_append, q4_size]
    show 10 + 10 + (13 + 16 + 4 + 4 + 4 + 4 + 4) ≤ 97
    omega
  · exact ⟨rec_made 2 origin_whole (by omega) ((wellD_one _ 2 (by omega)).2 server_whole), by show (2 : Int) ≠ 41; decide, by show 10 + 10 + 13 ≤ 97; omega⟩
  · obtain ⟨hn, ha⟩ := up_good hu
    obtain ⟨u1, u2⟩ := under_whole hn.2.1 hn.2.2
    have us := under_size u.node
    have hn2 := hn.2.2
    rcases ha.2.1 with h4 | h4
    · have hk : kindOf u = ((1 : Nat) : Int) := by unfold kindOf; rw [if_neg (by omega)]; rfl
      rw [hk]
      refine ⟨rec_made 1 u1 (by omega) ((wellD_flat _ 1 (by omega) (by omega)).2 ⟨by omega, by show (u.addr.size == 4) = true; rw [h4]; rfl⟩), by show (1 : Int) ≠ 41; decide, ?_⟩
      show (underP u.node).size + 10 + u.addr.size ≤ 97
      omega
    · have hk : kindOf u = ((28 : Nat) : Int) := by unfold kindOf; rw [if_pos h4]; rfl
      rw [hk]
      refine ⟨rec_made 28 u1 (by omega) ((wellD_flat _ 28 (by omega) (by omega)).2 ⟨by omega, by show (u.addr.size == 16) = true; rw [h4]; rfl⟩), by show (28 : Int) ≠ 41; decide, ?_⟩
      show (underP u.node).size + 10 + u.addr.size ≤ 97
      omega
  · obtain ⟨hn, ha⟩ := up_good hu
    obtain ⟨u1, u2⟩ := under_whole hn.2.1 hn.2.2
    have us := under_size u.node
    have hn2 := hn.2.2
    have ht2 := ha.2.2.2.2
    refine ⟨rec_made 16 u1 (by omega) (text_well _ ht2), by show (16 : Int) ≠ 41; decide, ?_⟩
    show (underP u.node).size + 10 + (one u.text.size ++ u.text).size ≤ 97
    rw [ByteArray.size_append]
    show (underP u.node).size + 10 + (1 + u.text.size) ≤ 97
    omega
  · obtain ⟨hn, hal⟩ := up_good hu
    obtain ⟨u1, u2⟩ := under_whole hn.2.1 hn.2.2
    have hl : labelOk u.alias := by
      rcases hal.1 with q | q
      · exact absurd q ha
      · exact q
    obtain ⟨v1, v2⟩ := under_whole hl.2.1 hl.2.2
    have us := under_size u.node
    have vs := under_size u.alias
    have hn2 := hn.2.2
    have hl2 := hl.2.2
    refine ⟨rec_made 5 v1 (by omega) ((wellD_one _ 5 (by omega)).2 u1), by show (5 : Int) ≠ 41; decide, ?_⟩
    show (underP u.alias).size + 10 + (underP u.node).size ≤ 97
    omega
  · obtain ⟨hn, ha⟩ := up_good hu
    have us := under_size u.node
    have hn2 := hn.2.2
    refine ⟨rec_made 33 service_whole (by omega) (srv_well _ _ hn.2.1 hn.2.2), by show (33 : Int) ≠ 41; decide, ?_⟩
    show 21 + 10 + (q4 0 ++ wd u.port.toNat ++ underP u.node).size ≤ 97
    rw [ByteArray.size_append, ByteArray.size_append, q4_size, wd_size]
    omega

/-- A name of the zone that is a service's has services alone. -/
theorem service_kind {l : List Ev} {x : RI} (h : x ∈ recordsM l) : (x.name = serviceB ↔ x.ty = 33) := by
  have hs : serviceB.size = 21 := rfl
  have ho : originB ≠ serviceB := fun e => absurd (congrArg ByteArray.size e) (by decide)
  have hu : ∀ s : ByteArray, 1 ≤ s.size → s.size ≤ 15 → underP s ≠ serviceB := fun s h1 h2 e => by
    have h3 := congrArg ByteArray.size e
    rw [under_size, hs] at h3
    have h4 : bt (underP s) 0 = s.size := by
      unfold underP
      rw [append_assoc', bt_append, if_pos (by show 0 < 1; omega)]
      show (UInt8.ofNat s.size).toNat = _
      rw [UInt8.toNat_ofNat_of_lt' (by simpa using (show s.size < 256 by omega))]
    rw [e] at h4
    have h5 : bt serviceB 0 = 5 := by decide
    omega
  rcases zone_mem h with (⟨k, rfl⟩ | rfl) | ⟨u, hu2, rfl | ⟨ht, rfl⟩⟩ | ⟨u, hu2, ha, _, rfl⟩ | ⟨u, hu2, rfl⟩
  · exact ⟨fun e => absurd e ho, fun e => absurd e (by show ¬ (6 : Int) = 33; decide)⟩
  · exact ⟨fun e => absurd e ho, fun e => absurd e (by show ¬ (2 : Int) = 33; decide)⟩
  · obtain ⟨hn, _⟩ := up_good hu2
    refine ⟨fun e => absurd e (hu _ hn.2.1 hn.2.2), fun e => absurd e ?_⟩
    show ¬ kindOf u = 33
    rcases kind_of u with q | q <;> rw [q] <;> decide
  · obtain ⟨hn, _⟩ := up_good hu2
    exact ⟨fun e => absurd e (hu _ hn.2.1 hn.2.2), fun e => absurd e (by show ¬ (16 : Int) = 33; decide)⟩
  · obtain ⟨hn, hal⟩ := up_good hu2
    have hl : labelOk u.alias := by
      rcases hal.1 with q | q
      · exact absurd q ha
      · exact q
    exact ⟨fun e => absurd e (hu _ hl.2.1 hl.2.2), fun e => absurd e (by show ¬ (5 : Int) = 33; decide)⟩
  · exact ⟨fun _ => rfl, fun _ => rfl⟩

/-- Counts. -/
theorem flat_count (p : RI → Bool) (k : Nat) : ∀ up : List Ev, (∀ u, u ∈ up → (nodeR u).countP p ≤ k) → (up.flatMap nodeR).countP p ≤ k * up.length
  | [], _ => by simp
  | u :: up, h => by
    rw [List.flatMap_cons, List.countP_append, List.length_cons, Nat.mul_add]
    have h1 := h u (by simp)
    have h2 := flat_count p k up fun v hv => h v (by simp [hv])
    omega
theorem map_count (f : Ev → RI) (p : RI → Bool) (L : List Ev) : (L.map f).countP p ≤ L.length := by
  have := List.countP_le_length (p := p) (l := L.map f)
  rw [List.length_map] at this
  exact this
theorem map_none (f : Ev → RI) (p : RI → Bool) (L : List Ev) (h : ∀ u, p (f u) = false) : (L.map f).countP p = 0 := cnt_zero fun x hx => by
  obtain ⟨u, _, rfl⟩ := List.mem_map.1 hx
  exact h u
theorem two_count (p : RI → Bool) (a b : RI) : [a, b].countP p ≤ 2 := List.countP_le_length

theorem zone_split (l : List Ev) (p : RI → Bool) : (recordsM l).countP p = [madeR originB 6 (soaB (incP (goodL l)).toNat), madeR originB 2 serverB].countP p + ((upM l).flatMap nodeR).countP p + ((aliL l).map cnR).countP p + ((upM l).map srvR).countP p := by
  unfold recordsM aliL
  rw [List.countP_append, List.countP_append, List.countP_append]

theorem kind_count (l : List Ev) (t : Int) : (recordsM l).countP (fun x => decide (x.ty = t)) ≤ (upM l).length + 2 ∧ (t = 6 → (recordsM l).countP (fun x => decide (x.ty = t)) ≤ 2) := by
  rw [zone_split]
  have h1 := two_count (fun x => decide (x.ty = t)) (madeR originB 6 (soaB (incP (goodL l)).toNat)) (madeR originB 2 serverB)
  have h2 := map_count cnR (fun x => decide (x.ty = t)) (aliL l)
  have h3 := map_count srvR (fun x => decide (x.ty = t)) (upM l)
  have h4 := aliL_len l
  by_cases c5 : t = 5
  · subst c5
    have e1 : [madeR originB 6 (soaB (incP (goodL l)).toNat), madeR originB 2 serverB].countP (fun x => decide (x.ty = 5)) = 0 := rfl
    have e2 : ((upM l).flatMap nodeR).countP (fun x => decide (x.ty = 5)) = 0 := cnt_zero fun x hx => by
      obtain ⟨u, _, hx⟩ := List.mem_flatMap.1 hx
      refine decide_eq_false ?_
      obtain ⟨_, hk, _⟩ := nodeR_name hx
      omega
    have e3 := map_none srvR (fun x => decide (x.ty = 5)) (upM l) (fun _ => rfl)
    exact ⟨by omega, fun h => by omega⟩
  · have e2 := map_none cnR (fun x => decide (x.ty = t)) (aliL l) (fun u => decide_eq_false (by show ¬ (5 : Int) = t; omega))
    by_cases c33 : t = 33
    · subst c33
      have e1 : ((upM l).flatMap nodeR).countP (fun x => decide (x.ty = 33)) = 0 := cnt_zero fun x hx => by
        obtain ⟨u, _, hx⟩ := List.mem_flatMap.1 hx
        refine decide_eq_false ?_
        obtain ⟨_, hk, _⟩ := nodeR_name hx
        omega
      exact ⟨by omega, fun h => by omega⟩
    · have e3 := map_none srvR (fun x => decide (x.ty = t)) (upM l) (fun u => decide_eq_false (by show ¬ (33 : Int) = t; omega))
      by_cases c6 : t = 6
      · have e1 : ((upM l).flatMap nodeR).countP (fun x => decide (x.ty = t)) = 0 := cnt_zero fun x hx => by
          obtain ⟨u, _, hx⟩ := List.mem_flatMap.1 hx
          refine decide_eq_false ?_
          obtain ⟨_, hk, _⟩ := nodeR_name hx
          omega
        exact ⟨by omega, fun h => by omega⟩
      · have e1 := flat_count (fun x => decide (x.ty = t)) 1 (upM l) fun u _ => by
          rw [nodeR_count]
          have ha : (if (fun x : RI => decide (x.ty = t)) (madeR (underP u.node) (kindOf u) u.addr) = true then 1 else 0) = if kindOf u = t then 1 else 0 := by
            show (if decide (kindOf u = t) = true then 1 else 0) = _
            simp
          have hb : (if (fun x : RI => decide (x.ty = t)) (madeR (underP u.node) 16 (one u.text.size ++ u.text)) = true then 1 else 0) = if (16 : Int) = t then 1 else 0 := by
            show (if decide ((16 : Int) = t) = true then 1 else 0) = _
            simp
          rw [ha, hb]
          have hk := kind_of u
          split <;> split <;> (try split) <;> omega
        exact ⟨by omega, fun h => absurd h c6⟩

theorem name_count (l : List Ev) (n : ByteArray) : (recordsM l).countP (fun x => decide (x.name = n)) ≤ 3 * (upM l).length + 2 := by
  by_cases c : n = serviceB
  · have h := (kind_count l 33).1
    have e : (recordsM l).countP (fun x => decide (x.name = n)) = (recordsM l).countP (fun x => decide (x.ty = 33)) := by
      refine List.countP_congr fun x hx => ?_
      rw [decide_eq_true_iff, decide_eq_true_iff, c]
      exact service_kind hx
    omega
  · rw [zone_split]
    have h1 := two_count (fun x => decide (x.name = n)) (madeR originB 6 (soaB (incP (goodL l)).toNat)) (madeR originB 2 serverB)
    have h2 := map_count cnR (fun x => decide (x.name = n)) (aliL l)
    have h3 := map_none srvR (fun x => decide (x.name = n)) (upM l) (fun u => decide_eq_false fun e => c e.symm)
    have h4 := aliL_len l
    have h5 := flat_count (fun x => decide (x.name = n)) 2 (upM l) fun u _ => Nat.le_trans List.countP_le_length (nodeR_len u).2
    omega

end Go.Proofs.YtdhobdmhnocbgabGreat

namespace Go.Proofs.YtdhobdmhnocbgabGreat
open Go.RowKit Zr

/-- Each set has all records of a name and its type. -/
def KindZ (z : List RI) (L : List ST) : Prop := ∀ s, s ∈ L → ∃ n, s.l = ofP z n s.kind ∧ s.l ≠ []
theorem KindZ.want {z : List RI} {L : List ST} (h : KindZ z L) (p : Nat) (n : ByteArray) (t : Int) : KindZ z (wantP z L p n t) := by
  intro s hs
  unfold wantP at hs
  split at hs
  · exact h s hs
  · next hne =>
    rcases List.mem_append.1 hs with q | q
    · exact h s q
    · rw [List.mem_singleton] at q
      subst q
      exact ⟨n, rfl, hne⟩
theorem KindZ.nil (z : List RI) : KindZ z [] := fun s hs => by cases hs
theorem wantTo_end (z : List RI) (n : ByteArray) (L : List ST) (j : Nat) (k : z.length ≤ j) : wantTo z n L (j + 1) = wantTo z n L j := by
  show (match z[j]? with | none => _ | some x => _ : List ST) = _
  rw [List.getElem?_eq_none k]
/-- All sets of a name. -/
def NameZ (z : List RI) (n : ByteArray) (L : List ST) : Prop := ∀ s, s ∈ L → s.l = ofP z n s.kind ∧ s.l ≠ [] ∧ s.part = 0
theorem NameZ.want {z : List RI} {n : ByteArray} {L : List ST} (h : NameZ z n L) (t : Int) : NameZ z n (wantP z L 0 n t) := by
  intro s hs
  unfold wantP at hs
  split at hs
  · exact h s hs
  · next hne =>
    rcases List.mem_append.1 hs with q | q
    · exact h s q
    · rw [List.mem_singleton] at q
      subst q
      exact ⟨rfl, hne, rfl⟩
theorem NameZ.all (z : List RI) (n : ByteArray) : ∀ j, NameZ z n (wantTo z n [] j)
  | 0 => fun s hs => by simp [wantTo] at hs
  | j + 1 => by
    have ih := NameZ.all z n j
    rcases Nat.lt_or_ge j z.length with k | k
    · rw [wantTo_step z n [] j k]
      split
      · exact ih.want _
      · exact ih
    · rw [wantTo_end z n [] j k]
      exact ih
theorem NameZ.kind {z : List RI} {n : ByteArray} {L : List ST} (h : NameZ z n L) : KindZ z L := fun s hs => ⟨n, (h s hs).1, (h s hs).2.1⟩
theorem KindZ.answ (z : List RI) (n : ByteArray) (t : Int) : KindZ z (answP z [] n t) := by
  unfold answP
  split
  · exact (NameZ.all z n _).kind
  · split
    · exact (KindZ.nil z).want _ _ _
    · exact ((KindZ.nil z).want _ _ _).want _ _ _
theorem KindZ.main (z : List RI) (n : ByteArray) (t : Int) : KindZ z (mainP z n t) := by
  unfold mainP soaP
  split
  · exact KindZ.answ z n t
  · exact (KindZ.answ z n t).want _ _ _

theorem of_len (z : List RI) (n : ByteArray) (t : Int) : (ofP z n t).length ≤ z.countP (fun x => decide (x.ty = t)) := by
  unfold ofP
  rw [← List.countP_eq_length_filter]
  refine List.countP_mono_left fun x _ hx => ?_
  rw [decide_eq_true_iff] at hx ⊢
  exact hx.2
theorem services_len {z : List RI} {L : List ST} (h : KindZ z L) : (servicesP L).length ≤ z.countP (fun x => decide (x.ty = 33)) := by
  unfold servicesP
  split
  · simp
  · next s hs =>
    have h1 := List.mem_of_find?_eq_some hs
    have h2 := List.find?_some hs
    have h2' : s.kind = 33 := by simpa using h2
    obtain ⟨n, h3, _⟩ := h s h1
    rw [h3, h2']
    exact of_len z n 33
theorem services_none {L : List ST} (h : ∀ s, s ∈ L → s.kind ≠ 33) : servicesP L = [] := by
  unfold servicesP
  split
  · rfl
  · next s hs =>
    have h2 := List.find?_some hs
    have h2' : s.kind = 33 := by simpa using h2
    exact absurd h2' (h s (List.mem_of_find?_eq_some hs))
theorem tot_one (z : List RI) (L : List ST) (p : Nat) (n : ByteArray) (t : Int) : tot (wantP z L p n t) ≤ tot L + (ofP z n t).length := by
  unfold wantP
  split
  · omega
  · rw [tot_cat]
    have : tot [⟨p, t, ofP z n t⟩] = (ofP z n t).length := by simp [tot]
    omega

theorem soa_tot (l : List Ev) (L : List ST) : tot (soaP (recordsM l) L) ≤ tot L + 2 := by
  have h1 := tot_one (recordsM l) L 1 originB 6
  have h2 := of_len (recordsM l) originB 6
  have h3 := (kind_count l 6).2 rfl
  unfold soaP
  omega
theorem any_tot (l : List Ev) (n : ByteArray) : tot (wantTo (recordsM l) n [] (recordsM l).length) ≤ (recordsM l).countP (fun x => decide (x.name = n)) := by
  rw [tot_all]
  refine List.countP_mono_left fun x _ hx => ?_
  rw [Bool.and_eq_true] at hx
  exact hx.1

/-- How many records an answer wants at most. -/
theorem few_tot (l : List Ev) (n : ByteArray) (t : Int) : tot (setsP (recordsM l) n t) ≤ 3 * (upM l).length + 8 := by
  have hso := fun L => soa_tot l L
  have e0 : tot [] = 0 := rfl
  unfold setsP
  split
  · unfold hostsP
    have h1 := (hosts_more (recordsM l) (servicesP (mainP (recordsM l) n t)) _ (SubZ.main (recordsM l) n t) _ (Nat.le_refl _)).1
    have h2 := services_len (KindZ.main (recordsM l) n t)
    have h3 := (kind_count l 33).1
    by_cases c : t = 255
    · have hm : tot (mainP (recordsM l) n t) ≤ (recordsM l).countP (fun x => decide (x.name = n)) + 2 := by
        have h4 := any_tot l n
        unfold mainP answP
        rw [if_pos c]
        split
        · omega
        · have := hso (wantTo (recordsM l) n [] (recordsM l).length)
          omega
      by_cases cs : n = serviceB
      · have h5 : (recordsM l).countP (fun x => decide (x.name = n)) = (recordsM l).countP (fun x => decide (x.ty = 33)) := by
          refine List.countP_congr fun x hx => ?_
          rw [decide_eq_true_iff, decide_eq_true_iff, cs]
          exact service_kind hx
        omega
      · have h5 := name_count l n
        have h6 : servicesP (mainP (recordsM l) n t) = [] := by
          refine services_none fun s hs hk => ?_
          have hA : s ∈ wantTo (recordsM l) n [] (recordsM l).length → False := fun hw => by
            obtain ⟨h7, h8, _⟩ := NameZ.all (recordsM l) n _ s hw
            rw [h7, hk] at h8
            obtain ⟨x, hx⟩ := List.exists_mem_of_ne_nil _ h8
            obtain ⟨hx1, hx2⟩ := List.mem_filter.1 hx
            have hx3 := of_decide_eq_true hx2
            exact cs (hx3.1.symm.trans ((service_kind hx1).2 hx3.2))
          unfold mainP answP soaP wantP at hs
          rw [if_pos c] at hs
          split at hs
          · exact hA hs
          · split at hs
            · exact hA hs
            · rcases List.mem_append.1 hs with q | q
              · exact hA q
              · rw [List.mem_singleton] at q
                subst q
                exact absurd hk (by show ¬ (6 : Int) = 33; decide)
        rw [h6] at h1 ⊢
        simp only [List.length_nil] at h1 ⊢
        omega
    · have hw : ∀ L a u, tot (wantP (recordsM l) L 0 a u) ≤ tot L + (upM l).length + 2 := fun L a u => by
        have h4 := tot_one (recordsM l) L 0 a u
        have h5 := of_len (recordsM l) a u
        have h6 := (kind_count l u).1
        omega
      have hm : tot (mainP (recordsM l) n t) ≤ 2 * (upM l).length + 6 := by
        unfold mainP answP
        rw [if_neg c]
        have k1 := hw [] n 5
        have k2 := hw (wantP (recordsM l) [] 0 n 5) (aimP (recordsM l) n) t
        by_cases c5 : t = 5
        · rw [if_pos c5]
          have := hso (wantP (recordsM l) [] 0 n 5)
          split <;> omega
        · rw [if_neg c5]
          have := hso (wantP (recordsM l) (wantP (recordsM l) [] 0 n 5) 0 (aimP (recordsM l) n) t)
          split <;> omega
      omega
  · have := hso []
    omega

theorem whlR_cat (A B : List RI) : whlR (A ++ B) = whlR A + whlR B := by
  unfold whlR
  rw [List.foldl_append]
  exact foldR_add B _
theorem whlR_97 : ∀ L : List RI, (∀ x, x ∈ L → x.name.size + 10 + x.data.size ≤ 97) → whlR L ≤ 97 * L.length
  | [], _ => by show (0 : Nat) ≤ _; omega
  | x :: L, h => by
    have h1 := h x (by simp)
    have h2 := whlR_97 L fun y hy => h y (by simp [hy])
    have e : whlR (x :: L) = whlR [x] + whlR L := whlR_cat [x] L
    have e2 : whlR [x] = 0 + x.name.size + 10 + x.data.size := rfl
    rw [List.length_cons]
    omega

theorem part_plain {L : List RI} (p : Nat) (hl : L.length ≤ 65535) (h : ∀ x, x ∈ L → recOk x ∧ x.ty ≠ 41) : partOk L p :=
  ⟨hl, fun _ hi => ⟨(h _ (List.getElem_mem hi)).1, fun q => (h _ (List.getElem_mem hi)).2 q.1⟩⟩
theorem part_cat {A B : List RI} (h : ∀ x, x ∈ A → recOk x ∧ x.ty ≠ 41) (hB : partOk B 2) (hl : A.length + B.length ≤ 65535) : partOk (A ++ B) 2 := by
  refine ⟨by rw [List.length_append]; exact hl, fun i hi => ?_⟩
  rcases Nat.lt_or_ge i A.length with k | k
  · rw [List.getElem_append_left k]
    exact ⟨(h _ (List.getElem_mem k)).1, fun q => (h _ (List.getElem_mem k)).2 q.1⟩
  · rw [List.length_append] at hi
    have hi2 : i - A.length < B.length := by omega
    rw [List.getElem_append_right k]
    obtain ⟨b1, b2⟩ := hB.2 (i - A.length) hi2
    refine ⟨b1, fun q => b2 ⟨q.1, ?_⟩⟩
    rcases q.2 with ⟨y, hy, hy2⟩ | q2
    · rw [List.take_append] at hy
      rcases List.mem_append.1 hy with r | r
      · exact absurd hy2 (h y (List.mem_of_mem_take r)).2
      · exact .inl ⟨y, r, hy2⟩
    · exact .inr q2
theorem partP_mem {L : List ST} {p : Nat} {x : RI} (h : x ∈ partP L p) : ∃ s, s ∈ L ∧ s.part = p ∧ x ∈ s.l := by
  obtain ⟨s, hs, hx⟩ := List.mem_flatMap.1 h
  obtain ⟨h1, h2⟩ := List.mem_filter.1 hs
  exact ⟨s, h1, of_decide_eq_true h2, hx⟩
theorem ques_len {q : List QI} (h : quesOk q) (h6 : q.length ≤ 1) : whlQ q ≤ 300 := by
  match hx : q with
  | [] => show 12 ≤ 300; omega
  | [q] =>
    have := h.2 0 (by simp)
    have hs : q.name.size ≤ 255 := (whole_pos this.1).2
    show 12 + q.name.size + 4 ≤ 300
    omega
  | a :: b :: l => simp at h6

/-- All sets fit, if they are well made, and few. -/
theorem rep_fit (x : Rep) (hr : RepOk x) (hp : Parted x.sets) (h2 : ∀ s, s ∈ x.sets → s.part ≤ 2) (hz : ∀ s, s ∈ x.sets → ∀ y, y ∈ s.l → recOk y ∧ y.ty ≠ 41 ∧ y.name.size + 10 + y.data.size ≤ 97) (hlim : 311 + 97 * tot x.sets ≤ x.lim) (hl2 : x.lim ≤ 65535) : Fit x x.sets.length := by
  obtain ⟨r1, r2, r3, r4, r5, r6⟩ := hr
  have hfl := rep_flags x x.sets.length ⟨r1, r2, r3, r4, r5, r6⟩
  have hflat := parts_flat x.sets hp h2
  have hlen : (partP x.sets 0).length + (partP x.sets 1).length + (partP x.sets 2).length = tot x.sets := by
    unfold tot
    rw [← hflat, List.length_append, List.length_append]
  have hm : ∀ p y, y ∈ partP x.sets p → recOk y ∧ y.ty ≠ 41 := fun p y hy => by
    obtain ⟨s, hs, _, hy⟩ := partP_mem hy
    exact ⟨(hz s hs y hy).1, (hz s hs y hy).2.1⟩
  have hs97 : ∀ p y, y ∈ partP x.sets p → y.name.size + 10 + y.data.size ≤ 97 := fun p y hy => by
    obtain ⟨s, hs, _, hy⟩ := partP_mem hy
    exact (hz s hs y hy).2.2
  have ho : (optsP x).length ≤ 1 := by unfold optsP; split <;> simp
  have e : repMsg x x.sets.length = ⟨x.id, (flagTo x.sets x.sets.length (x.fl ||| x.told % 16) x.sets.length : Nat), x.q, partP x.sets 0, partP x.sets 1, partP x.sets 2 ++ optsP x⟩ := by
    unfold repMsg
    rw [List.take_length]
  have hok : msgOk (repMsg x x.sets.length) := by
    rw [e]
    refine ⟨⟨by show (0 : Int) ≤ (x.id : Int); omega, by show (x.id : Int) ≤ 65535; omega⟩, ⟨by show (0 : Int) ≤ ((flagTo x.sets x.sets.length (x.fl ||| x.told % 16) x.sets.length : Nat) : Int); omega, by show ((flagTo x.sets x.sets.length (x.fl ||| x.told % 16) x.sets.length : Nat) : Int) ≤ 65535; omega⟩, r5, part_plain 0 (by show (partP x.sets 0).length ≤ 65535; omega) (hm 0), part_plain 1 (by show (partP x.sets 1).length ≤ 65535; omega) (hm 1), part_cat (hm 2) (opts_ok x r4) (by omega)⟩
  have hw := writ_le _ hok
  have hwl : whl (repMsg x x.sets.length) ≤ 311 + 97 * tot x.sets := by
    rw [e]
    show whlQ x.q + whlR (partP x.sets 0) + whlR (partP x.sets 1) + whlR (partP x.sets 2 ++ optsP x) ≤ _
    rw [whlR_cat]
    have k0 := whlR_97 _ (hs97 0)
    have k1 := whlR_97 _ (hs97 1)
    have k2 := whlR_97 _ (hs97 2)
    have k3 := opts_len x
    have k4 := ques_len r5 r6
    have k5 : 97 * ((partP x.sets 0).length + (partP x.sets 1).length + (partP x.sets 2).length) = 97 * tot x.sets := by rw [hlen]
    omega
  exact ⟨hok, by omega, by omega⟩

theorem fitting_all (x : Rep) (hr : RepOk x) (hp : Parted x.sets) (h2 : ∀ s, s ∈ x.sets → s.part ≤ 2) (hf : Fit x x.sets.length) {c : Nat} (h : Fitting x c) : c = x.sets.length :=
  fitting_one x hr.2.2.1 hr.2.2.2.1 hp h2 h ⟨Nat.le_refl _, .inr hf, .inl rfl⟩

/-- The sets of an answer are the zone's. -/
theorem take_sets (id fl : Nat) (m : MI) (l : List Ev) (stream : Bool) : Parted (takeP id fl m l stream).sets ∧ (∀ s, s ∈ (takeP id fl m l stream).sets → s.part ≤ 2) ∧ SubZ (recordsM l) (takeP id fl m l stream).sets ∧ tot (takeP id fl m l stream).sets ≤ 3 * (upM l).length + 8 := by
  unfold takeP
  split
  · split
    · obtain ⟨p1, p2⟩ := parted_sets (recordsM l) (smallP _) _
      exact ⟨p1, p2, (sets_all (recordsM l) _ _).1, few_tot l _ _⟩
    · exact ⟨List.Pairwise.nil, fun s hs => by simp at hs, SubZ.nil _, Nat.zero_le _⟩
  · exact ⟨List.Pairwise.nil, fun s hs => by simp at hs, SubZ.nil _, Nat.zero_le _⟩

/-- Over a stream, of few news, nothing is left out. -/
theorem stream_all (id : Nat) (m : MI) (l : List Ev) (hl : l.length ≤ 200) (hid : id < 65536) (hm : msgOk m) {c : Nat} (h : Fitting (takeP id (32768 ||| (m.flags.toNat &&& 30976)) m l true) c) : c = (takeP id (32768 ||| (m.flags.toNat &&& 30976)) m l true).sets.length := by
  obtain ⟨k1, k2⟩ := kept_bounds m.flags.toNat
  have hr := take_ok id (32768 ||| (m.flags.toNat &&& 30976)) m l true hid k1 k2 hm
  obtain ⟨p1, p2, p3, p4⟩ := take_sets id (32768 ||| (m.flags.toNat &&& 30976)) m l true
  have hlim : (takeP id (32768 ||| (m.flags.toNat &&& 30976)) m l true).lim = 65535 := (take_opt id (32768 ||| (m.flags.toNat &&& 30976)) m l true).2.1
  have hu := upM_len l
  refine fitting_all _ hr p1 p2 (rep_fit _ hr p1 p2 (fun s hs y hy => zone_ok ((p3 s hs).2.2.2 y hy)) ?_ ?_) h
  · rw [hlim]; omega
  · rw [hlim]; omega

theorem take_lim (id fl : Nat) (m : MI) (l : List Ev) : takeP id fl m l false = { takeP id fl m l true with lim := limP (classP m.x) false } := by
  unfold takeP
  split
  · split <;> rfl
  · rfl

/-- Something but extra records is left out. -/
def CutAt (S : List ST) (c : Nat) : Prop := ∃ i, c ≤ i ∧ ∃ h : i < S.length, S[i].part ≠ 2
theorem flag_to (S : List ST) (c f : Nat) : ∀ j, j ≤ S.length → ((∃ i, c ≤ i ∧ i < j ∧ ∃ h : i < S.length, S[i].part ≠ 2) → flagTo S c f j = f ||| 512) ∧ ((¬ ∃ i, c ≤ i ∧ i < j ∧ ∃ h : i < S.length, S[i].part ≠ 2) → flagTo S c f j = f)
  | 0, _ => ⟨fun ⟨i, _, h, _⟩ => by omega, fun _ => rfl⟩
  | j + 1, hj => by
    obtain ⟨h1, h2⟩ := flag_to S c f j (by omega)
    rw [cut_step S c f j (by omega)]
    by_cases q : c ≤ j ∧ S[j].part ≠ 2
    · rw [if_pos q]
      refine ⟨fun _ => ?_, fun h => absurd ⟨j, q.1, by omega, by omega, q.2⟩ h⟩
      by_cases r : ∃ i, c ≤ i ∧ i < j ∧ ∃ h : i < S.length, S[i].part ≠ 2
      · rw [h1 r, Nat.or_assoc]
        rfl
      · rw [h2 r]
    · rw [if_neg q]
      have hh : (∃ i, c ≤ i ∧ i < j + 1 ∧ ∃ h : i < S.length, S[i].part ≠ 2) → ∃ i, c ≤ i ∧ i < j ∧ ∃ h : i < S.length, S[i].part ≠ 2 := fun ⟨i, a, b, h, d⟩ => by
        rcases Nat.lt_or_ge i j with k | k
        · exact ⟨i, a, k, h, d⟩
        · have : i = j := by omega
          subst this
          exact absurd ⟨a, d⟩ q
      exact ⟨fun h => h1 (hh h), fun h => h2 fun ⟨i, a, b, r⟩ => h ⟨i, a, by omega, r⟩⟩
theorem flag_cut (S : List ST) (c f : Nat) : (CutAt S c → flagTo S c f S.length = f ||| 512) ∧ (¬ CutAt S c → flagTo S c f S.length = f) := by
  obtain ⟨h1, h2⟩ := flag_to S c f S.length (Nat.le_refl _)
  exact ⟨fun ⟨i, a, h, d⟩ => h1 ⟨i, a, h, h, d⟩, fun h => h2 fun ⟨i, a, _, r⟩ => h ⟨i, a, r⟩⟩
theorem cut_none (S : List ST) : ¬ CutAt S S.length := fun ⟨i, a, h, _⟩ => by omega

theorem part_cut (S : List ST) (c p : Nat) : partP S p = partP (S.take c) p ++ partP (S.drop c) p := by
  unfold partP
  rw [← List.flatMap_append, ← List.filter_append, List.take_append_drop]
theorem part_all (S : List ST) (hne : ∀ s, s ∈ S → s.l ≠ []) (h2 : ∀ s, s ∈ S → s.part ≤ 2) (c : Nat) : ((partP (S.take c) 0).length = (partP S 0).length ∧ (partP (S.take c) 1).length = (partP S 1).length) ↔ ¬ CutAt S c := by
  have hl : ∀ p, (partP S p).length = (partP (S.take c) p).length + (partP (S.drop c) p).length := fun p => by
    conv => lhs; rw [part_cut S c p]
    rw [List.length_append]
  constructor
  · rintro ⟨h0, h1⟩ ⟨i, hi, h, hp⟩
    have hmem : S[i] ∈ S.drop c := by
      rw [List.mem_iff_getElem]
      exact ⟨i - c, by rw [List.length_drop]; omega, by rw [List.getElem_drop]; congr 1; omega⟩
    have hpos : 0 < (partP (S.drop c) S[i].part).length := by
      obtain ⟨y, hy⟩ := List.exists_mem_of_ne_nil _ (hne _ (List.getElem_mem h))
      refine List.length_pos_of_mem (a := y) ?_
      exact List.mem_flatMap.2 ⟨S[i], List.mem_filter.2 ⟨hmem, decide_eq_true rfl⟩, hy⟩
    have h3 := h2 _ (List.getElem_mem h)
    have e0 := hl 0
    have e1 := hl 1
    have : S[i].part = 0 ∨ S[i].part = 1 := by omega
    rcases this with q | q <;> rw [q] at hpos <;> omega
  · intro hc
    have hn : ∀ p, p ≠ 2 → partP (S.drop c) p = [] := fun p hp => partP_none fun s hs q => by
      obtain ⟨k, hk, e⟩ := List.mem_iff_getElem.1 hs
      rw [List.length_drop] at hk
      rw [List.getElem_drop] at e
      exact hc ⟨c + k, by omega, by omega, by rw [e, q]; exact hp⟩
    have e0 := hl 0
    have e1 := hl 1
    rw [hn 0 (by omega)] at e0
    rw [hn 1 (by omega)] at e1
    simp only [List.length_nil] at e0 e1
    omega

theorem fl_no (g t : Nat) : ((32768 ||| (g &&& 30976)) ||| t % 16) &&& 512 = 0 ∧ ((32768 ||| (g &&& 30976) ||| 1024) ||| t % 16) &&& 512 = 0 := by
  have h1 : (t % 16) &&& 512 = 0 := (by decide : ∀ t, t < 16 → t &&& 512 = 0) _ (by omega)
  have h2 : (g &&& 30976) &&& 512 = 0 := by rw [Nat.and_assoc, show 30976 &&& 512 = 0 by decide, Nat.and_zero]
  constructor
  · rw [Nat.and_or_distrib_right, Nat.and_or_distrib_right, h1, h2, show 32768 &&& 512 = 0 by decide]
    rfl
  · rw [Nat.and_or_distrib_right, Nat.and_or_distrib_right, Nat.and_or_distrib_right, h1, h2, show 32768 &&& 512 = 0 by decide, show 1024 &&& 512 = 0 by decide]
    rfl
theorem take_fl (id : Nat) (m : MI) (l : List Ev) (stream : Bool) : ((takeP id (32768 ||| (m.flags.toNat &&& 30976)) m l stream).fl ||| (takeP id (32768 ||| (m.flags.toNat &&& 30976)) m l stream).told % 16) &&& 512 = 0 := by
  unfold takeP
  split
  · split
    · exact (fl_no _ _).2
    · exact (fl_no _ _).1
  · exact (fl_no _ _).1

theorem bit9 {f : Nat} (h : f &&& 512 = 0) : f.testBit 9 = false := by
  have h1 : (f &&& 2 ^ 9).testBit 9 = false := by
    have : f &&& 2 ^ 9 = 0 := h
    rw [this]; exact Nat.zero_testBit 9
  rw [Nat.testBit_and, Nat.testBit_two_pow] at h1
  simpa using h1
theorem andnot_raw (a : Nat) (ha : a < 65536) : bits .andNot .i64 (a : Int) 512 = ((a &&& (2 ^ 64 - (2 ^ 9 + 1)) : Nat) : Int) := by
  have hx : a &&& (2 ^ 64 - (2 ^ 9 + 1)) < 65536 := Nat.lt_of_le_of_lt Nat.and_le_left ha
  show IntKind.i64.wrap ((BitVec.ofInt 64 (a : Int) &&& ~~~ BitVec.ofInt 64 ((512 : Nat) : Int)).toNat : Int) = _
  rw [BitVec.toNat_and, BitVec.toNat_not, BitVec.ofInt_natCast, BitVec.ofInt_natCast, BitVec.toNat_ofNat, BitVec.toNat_ofNat, Nat.mod_eq_of_lt (by omega), Nat.mod_eq_of_lt (by omega), IntKind.wrap_i64]
  have e : 2 ^ 64 - 1 - 512 = 2 ^ 64 - (2 ^ 9 + 1) := by decide
  rw [e]
  omega
theorem andnot_nat (f : Nat) (hf : f < 65536) (h0 : f &&& 512 = 0) : bits .andNot .i64 (f : Int) 512 = (f : Int) ∧ bits .andNot .i64 ((f ||| 512 : Nat) : Int) 512 = (f : Int) := by
  have h9 := bit9 h0
  have hor : f ||| 512 < 65536 := Nat.or_lt_two_pow (n := 16) hf (by decide)
  have key : ∀ a, a < 65536 → (∀ i, i ≠ 9 → a.testBit i = f.testBit i) → a &&& (2 ^ 64 - (2 ^ 9 + 1)) = f := fun a ha hi => by
    refine Nat.eq_of_testBit_eq fun i => ?_
    rw [Nat.testBit_and, Nat.testBit_two_pow_sub_succ (by decide), Nat.testBit_two_pow]
    by_cases c : i = 9
    · subst c
      rw [h9]
      simp
    · rw [hi i c, decide_eq_false (show ¬ 9 = i from fun e => c e.symm)]
      by_cases c2 : i < 64
      · rw [decide_eq_true c2]; simp
      · have : f.testBit i = false := Nat.testBit_lt_two_pow (Nat.lt_of_lt_of_le hf (Nat.le_trans (by decide : 65536 ≤ 2 ^ 64) (Nat.pow_le_pow_right (by omega) (by omega))))
        rw [this]; simp
  constructor
  · rw [andnot_raw f hf, key f hf fun _ _ => rfl]
  · rw [andnot_raw _ hor, key _ hor fun i hi => ?_]
    rw [show (512 : Nat) = 2 ^ 9 from rfl, Nat.testBit_or, Nat.testBit_two_pow, decide_eq_false (show ¬ 9 = i from fun e => hi e.symm), Bool.or_false]
theorem or_and (f : Nat) : (f ||| 512) &&& 512 = 512 := by
  rw [Nat.and_or_distrib_right, Nat.and_self]
  have h : f &&& 512 ≤ 512 := Nat.and_le_right
  refine Nat.eq_of_testBit_eq fun i => ?_
  rw [Nat.testBit_or, Nat.testBit_and]
  cases f.testBit i <;> cases (512 : Nat).testBit i <;> rfl

/-- What a limit leaves of an answer. -/
theorem larger_p (y : Rep) (hne : ∀ s, s ∈ y.sets → s.l ≠ []) (h2 : ∀ s, s ∈ y.sets → s.part ≤ 2) (h5 : (y.fl ||| y.told % 16) &&& 512 = 0) (k : Nat) :
    ∃ (fa fb : Nat) (Ra Ru Rx : List RI), (repMsg y k).flags = (fa : Int) ∧ (repMsg y y.sets.length).flags = (fb : Int) ∧ fb &&& 512 = 0 ∧ (repMsg y y.sets.length).a = (repMsg y k).a ++ Ra ∧ (repMsg y y.sets.length).u = (repMsg y k).u ++ Ru ∧ partP y.sets 2 = partP (y.sets.take k) 2 ++ Rx ∧
      ((fa = fb ∧ Ra = [] ∧ Ru = []) ∨ (fa = fb ||| 512 ∧ ¬ (Ra = [] ∧ Ru = []))) := by
  obtain ⟨f1, f2⟩ := flag_cut y.sets k (y.fl ||| y.told % 16)
  have f3 := (flag_cut y.sets y.sets.length (y.fl ||| y.told % 16)).2 (cut_none y.sets)
  have hp := part_all y.sets hne h2 k
  have hl : ∀ p, (partP y.sets p).length = (partP (y.sets.take k) p).length + (partP (y.sets.drop k) p).length := fun p => by
    conv => lhs; rw [part_cut y.sets k p]
    rw [List.length_append]
  refine ⟨_, _, partP (y.sets.drop k) 0, partP (y.sets.drop k) 1, partP (y.sets.drop k) 2, rfl, rfl, ?_, ?_, ?_, part_cut y.sets k 2, ?_⟩
  · rw [f3]; exact h5
  · show partP (y.sets.take y.sets.length) 0 = _
    rw [List.take_length]; exact part_cut y.sets k 0
  · show partP (y.sets.take y.sets.length) 1 = _
    rw [List.take_length]; exact part_cut y.sets k 1
  · rw [f3]
    have e0 := hl 0
    have e1 := hl 1
    by_cases c : CutAt y.sets k
    · refine .inr ⟨f1 c, fun ⟨q0, q1⟩ => hp.1 ⟨?_, ?_⟩ c⟩
      · rw [q0] at e0; simp only [List.length_nil] at e0; omega
      · rw [q1] at e1; simp only [List.length_nil] at e1; omega
    · obtain ⟨q0, q1⟩ := hp.2 c
      exact .inl ⟨f2 c, List.length_eq_zero_iff.1 (by omega), List.length_eq_zero_iff.1 (by omega)⟩

end Go.Proofs.YtdhobdmhnocbgabGreat

namespace Go.Proofs.YtdhobdmhnocbgabGreat
open Go.RowKit Zr

theorem row_front {w : World} {N : Nat} {a : Option Addr} {xs ys : List Value} (h : RowAt w N a (xs ++ ys)) : RowAt w N a xs := by
  intro hx
  obtain ⟨b, o, h1, h2, h3⟩ := h (fun e => hx (List.append_eq_nil_iff.1 e).1)
  refine ⟨b, o, h1, h2, fun j u hu => h3 j u ?_⟩
  rw [List.getElem?_append_left (List.getElem?_eq_some_iff.1 hu).1]
  exact hu
theorem row_takeE {w : World} {N : Nat} {a : Option Addr} {l : List Ev} (h : RowAt w N a (evC l)) (k : Nat) : RowAt w N a (evC (l.take k)) := by
  rw [← List.take_append_drop k l, evC_append] at h
  exact row_front h

set_option maxRecDepth 100000 in
set_option maxHeartbeats 2000000 in
theorem few_k (l : List Ev) (a : Option Addr) (c N : Nat) (w : World) (h : RowAt w N a (evC l)) (hc : l.length ≤ c) (hl : l.length ≤ 9223372036854775807) :
    Calls Tryz.prog 27 #[.slice a l.length c] w fun e w' => e = .returned (.slice a (l.take 200).length c) ∧ w' = w := by
  by_cases h2 : 200 < l.length
  · obtain ⟨b, o, rfl, hb, _⟩ := row_e h 0 (by omega)
    have hlen : (l.take 200).length = 200 := by rw [List.length_take]; omega
    rw [hlen]
    clear h
    have q1 : (200 : Int) ≤ (c : Int) := by omega
    go_enter Tryz.func27, Tryz.ntmps27
    go_wp2_with fail
    go_ret
    exact ⟨rfl, rfl⟩
  · have hlen : (l.take 200).length = l.length := by rw [List.length_take]; omega
    rw [hlen]
    clear h
    go_enter Tryz.func27, Tryz.ntmps27
    go_wp2_with fail
    go_ret
    exact ⟨rfl, rfl⟩

set_option maxRecDepth 100000 in
set_option maxHeartbeats 2000000 in
theorem starts_k (A R : List RI) (a b : Option Addr) (nb ca cb N M : Nat) (w : World) (hb : RowAt w N b (rcI (A ++ R))) (ha : RowAt w M a (rcI A)) (hn : nb = (A ++ R).length) (hc : nb ≤ cb) (hl : nb ≤ 1048576) :
    Calls Tryz.prog 29 #[.slice b nb cb, .slice a A.length ca] w fun e w' => e = .returned (.bool true) ∧ Below w.heap.size w w' := by
  have hle : A.length ≤ nb := by rw [hn, List.length_append]; omega
  rw [rcI_cat] at hb
  have hb2 := row_front hb
  have kk := fun c1 c2 => sameRecordsK A b a c1 c2 N M w hb2 ha (by omega)
  have KK := hide kk
  clear kk hb hb2 ha
  have q1 : decide ((nb : Int) < (A.length : Int)) = false := decide_eq_false (by omega)
  have q2 : ¬ (nb : Int) < (A.length : Int) := by omega
  have q3 : (A.length : Int) ≤ (cb : Int) := by omega
  go_enter Tryz.func29, Tryz.ntmps29
  go_wp2_with fail
  trace_state
  refine (unhide KK _ _).mono ?_
  rintro e w1 ⟨rfl, nd, rfl⟩
  go_wp2_with fail
  go_ret
  exact ⟨rfl, below_drewA (Below.refl _ _) nd⟩

end Go.Proofs.YtdhobdmhnocbgabGreat

namespace Go.Proofs.YtdhobdmhnocbgabGreat
open Go.RowKit Zr

set_option maxRecDepth 100000 in
set_option maxHeartbeats 4000000 in
theorem larger_k (l : List Ev) (al : Option Addr) (cl : Nat) (a : Option Addr) (n c : Nat) (w : World) (hE0 : RowAt w w.heap.size al (evC l)) (hcl : l.length ≤ cl) (hl0 : l.length ≤ 9223372036854775807) (hz0 : EvSized l) (hraw : RawAt w w.heap.size a n) (hn : n ≤ 9223372036854775807) :
    Calls Tryz.prog 7 #[.slice al l.length cl, .slice a n c] w fun e w' => e = .returned (.bool true) ∧ Below w.heap.size w w' := by
  have KF := hide (few_k l al cl w.heap.size w hE0 hcl hl0)
  have hE := row_takeE hE0 200
  have hz : EvSized (l.take 200) := sized_mem (fun x hx => List.mem_of_mem_take hx) hz0
  have hL : (l.take 200).length ≤ 200 := by rw [List.length_take]; omega
  clear hE0 hz0
  generalize l.take 200 = L at *
  have ka := asked_k L al cl a n c w hE (by omega) hz hraw hn
  have KA := hide ka
  have HE := hide hE
  clear ka hE hraw
  go_enter Tryz.func7, Tryz.ntmps7
  go_wp2_with fail
  refine (unhide KF).mono ?_
  rintro e w0 ⟨rfl, rfl⟩
  clear KF
  go_wp2_with fail
  refine (unhide KA).mono ?_
  rintro e w1 ⟨m, v, rfl, hQ, hM, hb1⟩
  have hsz := que_size hQ
  have hmute := not_mute m hQ.ok hsz hQ.fl
  have hid0 := hQ.ok.1.1
  have hid1 := hQ.ok.1.2
  obtain ⟨kk1, kk2⟩ := kept_bounds m.flags.toNat
  have hrF := take_ok m.id.toNat (32768 ||| (m.flags.toNat &&& 30976)) m L false (by omega) kk1 kk2 hQ.ok
  have hrT := take_ok m.id.toNat (32768 ||| (m.flags.toNat &&& 30976)) m L true (by omega) kk1 kk2 hQ.ok
  have ksF := fun (W : World) (hW : Below w0.heap.size w0 W) => answered_k L al cl w0.heap.size (writ m.nat).1 false W ((unhide HE).below hW) hW.size (by omega) hz hsz hmute
  have ksT := fun (W : World) (hW : Below w0.heap.size w0 W) => answered_k L al cl w0.heap.size (writ m.nat).1 true W ((unhide HE).below hW) hW.size (by omega) hz hsz hmute
  rw [rep_of L m false hQ.ok hsz] at ksF
  rw [rep_of L m true hQ.ok hsz] at ksT
  obtain ⟨_, p2, p3, _⟩ := take_sets m.id.toNat (32768 ||| (m.flags.toNat &&& 30976)) m L true
  have hall : ∀ d, Fitting (takeP m.id.toNat (32768 ||| (m.flags.toNat &&& 30976)) m L true) d → d = (takeP m.id.toNat (32768 ||| (m.flags.toNat &&& 30976)) m L true).sets.length ∧ msgOk (repMsg (takeP m.id.toNat (32768 ||| (m.flags.toNat &&& 30976)) m L true) d) := fun d h => ⟨stream_all m.id.toNat m L hL (by omega) hQ.ok h, (ans_ok _ hrT h).1⟩
  have hone : ∀ d, Fitting (takeP m.id.toNat (32768 ||| (m.flags.toNat &&& 30976)) m L false) d → msgOk (repMsg (takeP m.id.toNat (32768 ||| (m.flags.toNat &&& 30976)) m L false) d) := fun d h => (ans_ok _ hrF h).1
  have hcv : ∀ k, repMsg (takeP m.id.toNat (32768 ||| (m.flags.toNat &&& 30976)) m L false) k = repMsg (takeP m.id.toNat (32768 ||| (m.flags.toNat &&& 30976)) m L true) k := fun k => by rw [take_lim]; rfl
  have hlp := larger_p _ (fun s hs => (p3 s hs).1) p2 (take_fl m.id.toNat m L true)
  have tk := fun c => take_kind m.id.toNat (32768 ||| (m.flags.toNat &&& 30976)) m L true c
  have hfl := fun k => (rep_flags _ k hrT).2
  obtain ⟨sb, hsb⟩ : ∃ sb, (writ m.nat).1 = sb := ⟨_, rfl⟩
  rw [hsb] at ksF ksT ⊢
  obtain ⟨x, hx⟩ : ∃ x, takeP m.id.toNat (32768 ||| (m.flags.toNat &&& 30976)) m L false = x := ⟨_, rfl⟩
  obtain ⟨y, hy⟩ : ∃ y, takeP m.id.toNat (32768 ||| (m.flags.toNat &&& 30976)) m L true = y := ⟨_, rfl⟩
  rw [hx] at ksF hone hcv
  rw [hy] at ksT hall hcv hlp tk hfl
  have KSF := hide ksF
  have KST := hide ksT
  have HAll := hide hall
  have HOne := hide hone
  have HCv := hide hcv
  have HLp := hide hlp
  have HTk := hide tk
  have HFl := hide hfl
  obtain ⟨a1, c1, a2, c2, a3, c3, a4, c4, rfl, _⟩ := hM
  clear ksF ksT hall hone hcv hlp tk hfl p2 p3 hrF hrT kk1 kk2 hmute hsz hQ hx hy hsb KA HE hz hid0 hid1
  have hb2 := hb1.trans (((Below.refl w1.heap.size w1).alloc (Nat.le_refl _) (.cells #[.int .i64 m.id, .int .i64 m.flags, .slice a1 m.q.length c1, .slice a2 m.a.length c2, .slice a3 m.u.length c3, .slice a4 m.x.length c4] 27)).mono hb1.size)
  have HB2 := hide hb2
  clear hb2 hb1
  go_wp2_with fail
  generalize w1.alloc (.cells #[.int .i64 m.id, .int .i64 m.flags, .slice a1 m.q.length c1, .slice a2 m.a.length c2, .slice a3 m.u.length c3, .slice a4 m.x.length c4] 27) = w2 at *
  refine (unhide KSF _ (unhide HB2)).mono ?_
  rintro e w3 ⟨k, va, rfl, hf, hMa, hb3⟩
  have hokA := unhide HOne k hf
  rw [unhide HCv] at hMa hokA ⊢
  obtain ⟨fa, fb, Ra, Ru, Rx, g1, g2, g3, g4, g5, g6, g7⟩ := unhide HLp k
  have hfa := unhide HFl k
  have hfa2 : fa < 65536 := by
    have e : (repMsg y k).flags = ((flagTo y.sets k (y.fl ||| y.told % 16) y.sets.length : Nat) : Int) := rfl
    rw [g1] at e
    omega
  have hfb2 : fb < 65536 := by
    have e : (repMsg y y.sets.length).flags = ((flagTo y.sets y.sets.length (y.fl ||| y.told % 16) y.sets.length : Nat) : Int) := rfl
    have h9 := unhide HFl y.sets.length
    rw [g2] at e
    omega
  have hAx : (repMsg y k).x = partP (y.sets.take k) 2 ++ optsP y := rfl
  obtain ⟨A, hA⟩ : ∃ A, repMsg y k = A := ⟨_, rfl⟩
  rw [hA] at hMa hokA g1 g4 g5 hAx ⊢
  obtain ⟨B, hB⟩ : ∃ B, repMsg y y.sets.length = B := ⟨_, rfl⟩
  obtain ⟨b1, d1, b2, d2, b3, d3, b4, d4, rfl, _, hrA, hrU, hrX, _, _, _, _, _, hdA, hdU, hdX⟩ := hMa
  rw [g1]
  have HB3 := hide ((unhide HB2).trans (hb3.mono (unhide HB2).size))
  have hb4 := (Below.refl w3.heap.size w3).alloc (Nat.le_refl _) (.cells #[.int .i64 A.id, .int .i64 (fa : Nat), .slice b1 A.q.length d1, .slice b2 A.a.length d2, .slice b3 A.u.length d3, .slice b4 A.x.length d4] 27)
  have HCa4 := hide (heap_alloc_new w3 (.cells #[.int .i64 A.id, .int .i64 (fa : Nat), .slice b1 A.q.length d1, .slice b2 A.a.length d2, .slice b3 A.u.length d3, .slice b4 A.x.length d4] 27))
  have HRa3 := hide hrA
  have HRu3 := hide hrU
  have HRx3 := hide hrX
  have HRa4 := hide (((unhide HRa3).below hb4).mono hb4.size)
  have HRu4 := hide (((unhide HRu3).below hb4).mono hb4.size)
  have HRx4 := hide (((unhide HRx3).below hb4).mono hb4.size)
  have HB4 := hide ((unhide HB3).trans (hb4.mono (unhide HB3).size))
  clear HRa3 HRu3 HRx3  HB3 hb4
  have HOkA := hide hokA
  have HAx := hide hAx
  have HG4 := hide g4
  have HG5 := hide g5
  have HG6 := hide g6
  clear hrA hrU hrX hokA hAx hb3 HB2 KSF HOne HCv HLp HFl hfa g1 g4 g5 g6 hA hf
  go_wp2_with fail
  generalize w3.alloc (.cells #[.int .i64 A.id, .int .i64 (fa : Nat), .slice b1 A.q.length d1, .slice b2 A.a.length d2, .slice b3 A.u.length d3, .slice b4 A.x.length d4] 27) = w4 at *
  generalize w3.heap.size = P1 at *
  refine (unhide KST _ (unhide HB4)).mono ?_
  rintro e w5 ⟨d, vb, rfl, hfd, hMb, hb5⟩
  obtain ⟨hd, hokB⟩ := unhide HAll d hfd
  subst hd
  have hBx : (repMsg y y.sets.length).x = partP y.sets 2 ++ optsP y := by show partP (y.sets.take y.sets.length) 2 ++ optsP y = _; rw [List.take_length]
  rw [hB] at hMb hokB g2 HG4 HG5 hBx ⊢
  obtain ⟨e1, f1, e2, f2, e3, f3, e4, f4, rfl, _, hsA, hsU, hsX, _, _, _, _, _, htA, htU, htX⟩ := hMb
  have hlA := hokB.2.2.2.1.1
  have hlU := hokB.2.2.2.2.1.1
  have hlX := hokB.2.2.2.2.2.1
  rw [g2]
  have HSa5 := hide hsA
  have HSu5 := hide hsU
  have HSx5 := hide hsX
  have HRa5 := hide (((unhide HRa4).below hb5).mono hb5.size)
  have HRu5 := hide (((unhide HRu4).below hb5).mono hb5.size)
  have HRx5 := hide (((unhide HRx4).below hb5).mono hb5.size)
  have HCa5 := hide ((hb5.block P1 (blk_lt (unhide HCa4))).trans (unhide HCa4))
  have HB5 := hide ((unhide HB4).trans (hb5.mono (unhide HB4).size))
  clear HRa4 HRu4 HRx4 HCa4 HB4 hb5
  have hb6 := (Below.refl w5.heap.size w5).alloc (Nat.le_refl _) (.cells #[.int .i64 B.id, .int .i64 (fb : Nat), .slice e1 B.q.length f1, .slice e2 B.a.length f2, .slice e3 B.u.length f3, .slice e4 B.x.length f4] 27)
  have HCb6 := hide (heap_alloc_new w5 (.cells #[.int .i64 B.id, .int .i64 (fb : Nat), .slice e1 B.q.length f1, .slice e2 B.a.length f2, .slice e3 B.u.length f3, .slice e4 B.x.length f4] 27))
  have HRa6 := hide (((unhide HRa5).below hb6).mono hb6.size)
  have HRu6 := hide (((unhide HRu5).below hb6).mono hb6.size)
  have HRx6 := hide (((unhide HRx5).below hb6).mono hb6.size)
  have HSa6 := hide (((unhide HSa5).below hb6).mono hb6.size)
  have HSu6 := hide (((unhide HSu5).below hb6).mono hb6.size)
  have HSx6 := hide (((unhide HSx5).below hb6).mono hb6.size)
  have HCa6 := hide ((hb6.block P1 (blk_lt (unhide HCa5))).trans (unhide HCa5))
  have HB6 := hide ((unhide HB5).trans (hb6.mono (unhide HB5).size))
  clear HRa5 HRu5 HRx5 HSa5 HSu5 HSx5 HCa5 HB5 hb6
  have HOkB := hide hokB
  have HBx := hide hBx
  clear hsA hsU hsX hokB hBx KST HAll g2 hB hfd
  have hand1 : bits .and .i64 ((fb : Nat) : Int) 512 = 0 := by
    have h1 := i64_and_nat fb 512 (by omega) (by decide)
    rw [g3] at h1
    exact h1
  obtain ⟨⟨m0, m1, m2, m3, m4, m5⟩, _⟩ := cells6 (unhide HCa6)
  obtain ⟨⟨n0, n1, n2, n3, n4, n5⟩, _⟩ := cells6 (unhide HCb6)
  have lm := blk_lt (unhide HCa6)
  have la := blk_lt (unhide HCb6)
  have koa := optOf_a y k A (unhide HAx) (unhide HOkA) (unhide HTk k) A.id (fa : Nat) (w5.alloc (.cells #[.int .i64 B.id, .int .i64 (fb : Nat), .slice e1 B.q.length f1, .slice e2 B.a.length f2, .slice e3 B.u.length f3, .slice e4 B.x.length f4] 27)) b1 A.q.length d1 b2 A.a.length d2 b3 A.u.length d3 b4 d4 (unhide HRx6) hdX
  have KOa := hide koa
  clear koa
  go_wp2_with fail
  generalize w5.alloc (.cells #[.int .i64 B.id, .int .i64 (fb : Nat), .slice e1 B.q.length f1, .slice e2 B.a.length f2, .slice e3 B.u.length f3, .slice e4 B.x.length f4] 27) = w6 at *
  generalize w5.heap.size = P2 at *
  refine (unhide KOa).mono ?_
  rintro e w7 ⟨⟨⟨rn, rt, rc, rl, rd⟩, _, rfl⟩, hb7⟩
  clear m0 m1 m2 m3 m4 m5 n0 n1 n2 n3 n4 n5 lm la hand1 KOa
  have HRa7 := hide (((unhide HRa6).below hb7).mono hb7.size)
  have HRu7 := hide (((unhide HRu6).below hb7).mono hb7.size)
  have HRx7 := hide (((unhide HRx6).below hb7).mono hb7.size)
  have HSa7 := hide (((unhide HSa6).below hb7).mono hb7.size)
  have HSu7 := hide (((unhide HSu6).below hb7).mono hb7.size)
  have HSx7 := hide (((unhide HSx6).below hb7).mono hb7.size)
  have HCa7 := hide ((hb7.block P1 (blk_lt (unhide HCa6))).trans (unhide HCa6))
  have HCb7 := hide ((hb7.block P2 (blk_lt (unhide HCb6))).trans (unhide HCb6))
  have HB7 := hide ((unhide HB6).trans (hb7.mono (unhide HB6).size))
  clear HRa6 HRu6 HRx6 HSa6 HSu6 HSx6 HCa6 HCb6 HB6 hb7
  dsimp only
  have hb8 := (Below.refl w7.heap.size w7).alloc (Nat.le_refl _) (.cells #[.string rn, .int .i64 rt, .int .i64 rc, .int .i64 rl, .string rd] 33)
  have HRa8 := hide (((unhide HRa7).below hb8).mono hb8.size)
  have HRu8 := hide (((unhide HRu7).below hb8).mono hb8.size)
  have HRx8 := hide (((unhide HRx7).below hb8).mono hb8.size)
  have HSa8 := hide (((unhide HSa7).below hb8).mono hb8.size)
  have HSu8 := hide (((unhide HSu7).below hb8).mono hb8.size)
  have HSx8 := hide (((unhide HSx7).below hb8).mono hb8.size)
  have HCa8 := hide ((hb8.block P1 (blk_lt (unhide HCa7))).trans (unhide HCa7))
  have HCb8 := hide ((hb8.block P2 (blk_lt (unhide HCb7))).trans (unhide HCb7))
  have HB8 := hide ((unhide HB7).trans (hb8.mono (unhide HB7).size))
  clear HRa7 HRu7 HRx7 HSa7 HSu7 HSx7 HCa7 HCb7 HB7 hb8
  obtain ⟨⟨m0, m1, m2, m3, m4, m5⟩, _⟩ := cells6 (unhide HCa8)
  obtain ⟨⟨n0, n1, n2, n3, n4, n5⟩, _⟩ := cells6 (unhide HCb8)
  have lm := blk_lt (unhide HCa8)
  have la := blk_lt (unhide HCb8)
  have hBx2 : B.x = partP (y.sets.take y.sets.length) 2 ++ optsP y := by rw [List.take_length]; exact unhide HBx
  have kob := optOf_a y y.sets.length B hBx2 (unhide HOkB) (unhide HTk _) B.id (fb : Nat) (w7.alloc (.cells #[.string rn, .int .i64 rt, .int .i64 rc, .int .i64 rl, .string rd] 33)) e1 B.q.length f1 e2 B.a.length f2 e3 B.u.length f3 e4 f4 (unhide HSx8) htX
  rw [List.take_length] at kob
  have KOb := hide kob
  clear kob hBx2
  go_wp2_with fail
  generalize w7.alloc (.cells #[.string rn, .int .i64 rt, .int .i64 rc, .int .i64 rl, .string rd] 33) = w8 at *
  refine (unhide KOb).mono ?_
  rintro e w9 ⟨⟨⟨qn, qt, qc, ql, qd⟩, _, rfl⟩, hb9⟩
  clear m0 m1 m2 m3 m4 m5 n0 n1 n2 n3 n4 n5 lm la KOb
  have HRa9 := hide (((unhide HRa8).below hb9).mono hb9.size)
  have HRu9 := hide (((unhide HRu8).below hb9).mono hb9.size)
  have HRx9 := hide (((unhide HRx8).below hb9).mono hb9.size)
  have HSa9 := hide (((unhide HSa8).below hb9).mono hb9.size)
  have HSu9 := hide (((unhide HSu8).below hb9).mono hb9.size)
  have HSx9 := hide (((unhide HSx8).below hb9).mono hb9.size)
  have HCa9 := hide ((hb9.block P1 (blk_lt (unhide HCa8))).trans (unhide HCa8))
  have HCb9 := hide ((hb9.block P2 (blk_lt (unhide HCb8))).trans (unhide HCb8))
  have HB9 := hide ((unhide HB8).trans (hb9.mono (unhide HB8).size))
  clear HRa8 HRu8 HRx8 HSa8 HSu8 HSx8 HCa8 HCb8 HB8 hb9
  dsimp only
  have hb10 := (Below.refl w9.heap.size w9).alloc (Nat.le_refl _) (.cells #[.string qn, .int .i64 qt, .int .i64 qc, .int .i64 ql, .string qd] 33)
  have HRa10 := hide (((unhide HRa9).below hb10).mono hb10.size)
  have HRu10 := hide (((unhide HRu9).below hb10).mono hb10.size)
  have HRx10 := hide (((unhide HRx9).below hb10).mono hb10.size)
  have HSa10 := hide (((unhide HSa9).below hb10).mono hb10.size)
  have HSu10 := hide (((unhide HSu9).below hb10).mono hb10.size)
  have HSx10 := hide (((unhide HSx9).below hb10).mono hb10.size)
  have HCa10 := hide ((hb10.block P1 (blk_lt (unhide HCa9))).trans (unhide HCa9))
  have HCb10 := hide ((hb10.block P2 (blk_lt (unhide HCb9))).trans (unhide HCb9))
  have HB10 := hide ((unhide HB9).trans (hb10.mono (unhide HB9).size))
  clear HRa9 HRu9 HRx9 HSa9 HSu9 HSx9 HCa9 HCb9 HB9 hb10
  obtain ⟨⟨m0, m1, m2, m3, m4, m5⟩, _⟩ := cells6 (unhide HCa10)
  obtain ⟨⟨n0, n1, n2, n3, n4, n5⟩, _⟩ := cells6 (unhide HCb10)
  have lm := blk_lt (unhide HCa10)
  have la := blk_lt (unhide HCb10)
  have hsa := unhide HSa10
  have hsu := unhide HSu10
  have hsx := unhide HSx10
  have hra := unhide HRx10
  rw [unhide HG4] at hsa
  rw [unhide HG5] at hsu
  rw [unhide HBx, unhide HG6, rcI_cat] at hsx
  rw [unhide HAx, rcI_cat] at hra
  have K1 := hide (starts_k A.a Ra b2 e2 B.a.length d2 f2 _ _ (w9.alloc (.cells #[.string qn, .int .i64 qt, .int .i64 qc, .int .i64 ql, .string qd] 33)) hsa (unhide HRa10) (by rw [unhide HG4]) htA (by omega))
  have K2 := hide (fun (W : World) (h : Below (w9.alloc (.cells #[.string qn, .int .i64 qt, .int .i64 qc, .int .i64 ql, .string qd] 33)).heap.size (w9.alloc (.cells #[.string qn, .int .i64 qt, .int .i64 qc, .int .i64 ql, .string qd] 33)) W) => starts_k A.u Ru b3 e3 B.u.length d3 f3 _ _ W (hsu.below h) ((unhide HRu10).below h) (by rw [unhide HG5]) htU (by omega))
  have hxl : (partP y.sets 2).length ≤ B.x.length := by rw [unhide HBx, List.length_append]; omega
  have K3 := hide (fun (W : World) (h : Below (w9.alloc (.cells #[.string qn, .int .i64 qt, .int .i64 qc, .int .i64 ql, .string qd] 33)).heap.size (w9.alloc (.cells #[.string qn, .int .i64 qt, .int .i64 qc, .int .i64 ql, .string qd] 33)) W) => starts_k (partP (y.sets.take k) 2) Rx b4 e4 (partP y.sets 2).length d4 f4 _ _ W ((row_front hsx).below h) ((row_front hra).below h) (by rw [unhide HG6]) (by omega) (by omega))
  clear hsa hsu hsx hra hxl HRa10 HRu10 HRx10 HSa10 HSu10 HSx10
  go_wp2_with fail
  generalize w9.alloc (.cells #[.string qn, .int .i64 qt, .int .i64 qc, .int .i64 ql, .string qd] 33) = w10 at *
  refine (unhide K1).mono ?_
  rintro e w11 ⟨rfl, hb11⟩
  have HD11 := hide hb11
  have HCa11 := hide ((hb11.block P1 (blk_lt (unhide HCa10))).trans (unhide HCa10))
  have HCb11 := hide ((hb11.block P2 (blk_lt (unhide HCb10))).trans (unhide HCb10))
  clear m0 m1 m2 m3 m4 m5 n0 n1 n2 n3 n4 n5 lm la K1 hb11 HCa10 HCb10
  obtain ⟨⟨m0, m1, m2, m3, m4, m5⟩, _⟩ := cells6 (unhide HCa11)
  obtain ⟨⟨n0, n1, n2, n3, n4, n5⟩, _⟩ := cells6 (unhide HCb11)
  have lm := blk_lt (unhide HCa11)
  have la := blk_lt (unhide HCb11)
  go_wp2_with fail
  refine (unhide K2 _ (unhide HD11)).mono ?_
  rintro e w12 ⟨rfl, hb12⟩
  have HD12 := hide ((unhide HD11).trans (hb12.mono (unhide HD11).size))
  have HCa12 := hide ((hb12.block P1 (blk_lt (unhide HCa11))).trans (unhide HCa11))
  have HCb12 := hide ((hb12.block P2 (blk_lt (unhide HCb11))).trans (unhide HCb11))
  clear m0 m1 m2 m3 m4 m5 n0 n1 n2 n3 n4 n5 lm la K2 hb12 HCa11 HCb11 HD11
  go_wp2_with fail
  refine (unhide K3 _ (unhide HD12)).mono ?_
  rintro e w13 ⟨rfl, hb13⟩
  have HB13 := hide ((unhide HB10).trans (((unhide HD12).trans (hb13.mono (unhide HD12).size)).mono (unhide HB10).size))
  have HCa13 := hide ((hb13.block P1 (blk_lt (unhide HCa12))).trans (unhide HCa12))
  have HCb13 := hide ((hb13.block P2 (blk_lt (unhide HCb12))).trans (unhide HCb12))
  clear K3 hb13 HCa12 HCb12 HD12
  obtain ⟨⟨m0, m1, m2, m3, m4, m5⟩, _⟩ := cells6 (unhide HCa13)
  obtain ⟨⟨n0, n1, n2, n3, n4, n5⟩, _⟩ := cells6 (unhide HCb13)
  have lm := blk_lt (unhide HCa13)
  have la := blk_lt (unhide HCb13)
  have hla : B.a.length = A.a.length + Ra.length := by rw [unhide HG4, List.length_append]
  have hlu : B.u.length = A.u.length + Ru.length := by rw [unhide HG5, List.length_append]
  obtain ⟨hn1, hn2⟩ := andnot_nat fb (by omega) g3
  rcases g7 with ⟨rfl, rfl, rfl⟩ | ⟨rfl, hne⟩
  · have hand1 : bits .and .i64 ((fa : Nat) : Int) 512 = 0 := by
      have h1 := i64_and_nat fa 512 (by omega) (by decide)
      rw [g3] at h1
      exact h1
    have q1 : ((A.a.length : Int) == (B.a.length : Int)) = true := by rw [beq_iff_eq]; simp only [List.length_nil] at hla; omega
    have q2 : ((A.u.length : Int) == (B.u.length : Int)) = true := by rw [beq_iff_eq]; simp only [List.length_nil] at hlu; omega
    clear hn2 hla hlu
    go_wp2_with fail
    go_ret
    exact ⟨rfl, unhide HB13⟩
  · have hand1 : bits .and .i64 ((fb ||| 512 : Nat) : Int) 512 = 512 := by
      have h1 := i64_and_nat (fb ||| 512) 512 (by omega) (by decide)
      rw [or_and] at h1
      exact h1
    clear hn1
    by_cases cr : Ra = []
    · have q1 : ((A.a.length : Int) == (B.a.length : Int)) = true := by rw [beq_iff_eq]; rw [cr] at hla; simp only [List.length_nil] at hla; omega
      have q2 : ((A.u.length : Int) == (B.u.length : Int)) = false := by
        have h9 : Ru ≠ [] := fun e => hne ⟨cr, e⟩
        have h8 := List.length_pos_iff.2 h9
        rw [beq_eq_false_iff_ne]; omega
      clear hla hlu hne
      go_wp2_with fail
      go_ret
      exact ⟨rfl, unhide HB13⟩
    · have q1 : ((A.a.length : Int) == (B.a.length : Int)) = false := by
        have h8 := List.length_pos_iff.2 cr
        rw [beq_eq_false_iff_ne]; omega
      clear hla hlu hne
      go_wp2_with fail
      go_ret
      exact ⟨rfl, unhide HB13⟩

end Go.Proofs.YtdhobdmhnocbgabGreat
