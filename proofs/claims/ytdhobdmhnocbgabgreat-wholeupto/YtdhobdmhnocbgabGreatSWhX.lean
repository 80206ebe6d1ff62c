/-
  Plain: the zone's records: which there are, that they are well made, how many.
-/
/-
  Plain: of few news all sets of an answer fit over a stream; what a limit leaves of them, and what the flags say of it.
-/
/-
  Plain: letters that are turned; small letters.
-/
/-
  Plain: what an answer holds first; a node that is up is found.
-/
/-
  Plain: what an answer has are the zone's records, each set whole; and the set that was asked for.
-/
/-
  Walks over zonekeep: small letters; a name below another; letters turned.
-/
/-
  Walks over zonekeep: whole sets.
-/
/-
  Whole: plain, and the walk over zonekeep's Whole.
-/
/-
  Walks over zonekeep: Whole.
-/
import Derived.Test.YtdhobdmhnocbgabGreatSFiP
import Derived.Test.YtdhobdmhnocbgabGreatSNwH
import Derived.Test.YtdhobdmhnocbgabGreatSQuB
import Derived.Test.YtdhobdmhnocbgabGreatSAnF
import Derived.Test.YtdhobdmhnocbgabGreatSFiV
namespace Go.Proofs.YtdhobdmhnocbgabGreat
open Go.RowKit Zr

theorem aliM_ok {up : List Ev} : ∀ {n : Nat} {e : Ev}, e ∈ aliM up (sortP (aliEs up)) n → e ∈ up ∧ e.alias ≠ ⟨#[]⟩ ∧ ¬ isUp up e.alias
  | 0, e, h => by simp [aliM] at h
  | n + 1, e, h => by
    unfold aliM at h
    split at h
    · next hn =>
      split at h
      · exact aliM_ok h
      · next hc =>
        rcases List.mem_append.1 h with h | h
        · exact aliM_ok h
        · rw [List.mem_singleton] at h
          have hn2 : ¬ isUp up (sortP (aliEs up))[n].key := fun q => hc (.inr q)
          obtain ⟨y, hy, he⟩ := List.mem_map.1 (sort_mem.1 (List.getElem_mem hn))
          rw [← he] at hn2 h
          simp only at hn2 h
          subst h
          obtain ⟨h1, h2⟩ := List.mem_filter.1 hy
          exact ⟨h1, of_decide_eq_true h2, hn2⟩
    · exact aliM_ok h

/-- The names that are told by an alias. -/
noncomputable def aliL (l : List Ev) : List Ev := aliM (upM l) (sortP (aliEs (upM l))) (sortP (aliEs (upM l))).length

/-- What a record of the zone is. -/
def inZ (l : List Ev) (x : RI) : Prop :=
  ((∃ k : Nat, x = madeR originB 6 (soaB k)) ∨ x = madeR originB 2 serverB) ∨
  (∃ u, u ∈ upM l ∧ (x = madeR (underP u.node) (kindOf u) u.addr ∨ (u.text ≠ ⟨#[]⟩ ∧ x = madeR (underP u.node) 16 (one u.text.size ++ u.text)))) ∨
  (∃ u, u ∈ upM l ∧ u.alias ≠ ⟨#[]⟩ ∧ ¬ isUp (upM l) u.alias ∧ x = cnR u) ∨
  ∃ u, u ∈ upM l ∧ x = srvR u

theorem nodeR_is {u : Ev} {x : RI} (h : x ∈ nodeR u) : x = madeR (underP u.node) (kindOf u) u.addr ∨ (u.text ≠ ⟨#[]⟩ ∧ x = madeR (underP u.node) 16 (one u.text.size ++ u.text)) := by
  unfold nodeR at h
  rcases List.mem_cons.1 h with h | h
  · exact .inl h
  · split at h
    · simp at h
    · next ht =>
      rw [List.mem_singleton] at h
      exact .inr ⟨ht, h⟩

theorem zone_mem {l : List Ev} {x : RI} (h : x ∈ recordsM l) : inZ l x := by
  unfold recordsM at h
  rcases List.mem_append.1 h with h | h
  · rcases List.mem_append.1 h with h | h
    · rcases List.mem_append.1 h with h | h
      · simp only [List.mem_cons, List.mem_nil_iff, or_false] at h
        rcases h with h | h
        · exact .inl (.inl ⟨_, h⟩)
        · exact .inl (.inr h)
      · obtain ⟨u, hu, hx⟩ := List.mem_flatMap.1 h
        exact .inr (.inl ⟨u, hu, nodeR_is hx⟩)
    · obtain ⟨u, hu, rfl⟩ := List.mem_map.1 h
      obtain ⟨h1, h2, h3⟩ := aliM_ok hu
      exact .inr (.inr (.inl ⟨u, h1, h2, h3, rfl⟩))
  · obtain ⟨u, hu, rfl⟩ := List.mem_map.1 h
    exact .inr (.inr (.inr ⟨u, hu, rfl⟩))

theorem up_good {l : List Ev} {u : Ev} (h : u ∈ upM l) : labelOk u.node ∧ aliveOk u := by
  obtain ⟨hg, hk⟩ := up_mem h
  obtain ⟨h1, _, _, h4⟩ := hg
  rcases h4 with h4 | ⟨_, h5⟩
  · rw [hk] at h4; exact absurd h4 (by decide)
  · exact ⟨h1, h5⟩

/-- A name of the zone that is a service's has services alone. -/
theorem service_kind {l : List Ev} {x : RI} (h : x ∈ recordsM l) : (x.name = serviceB ↔ x.ty = 33) := by
  have hs : serviceB.size = 21 := rfl
  have ho : originB ≠ serviceB := fun e => absurd (congrArg ByteArray.size e) (by decide)
  have hu : ∀ s : ByteArray, 1 ≤ s.size → s.size ≤ 15 → underP s ≠ serviceB := fun s h1 h2 e => by
    have h3 := congrArg ByteArray.size e
    rw [under_size, hs] at h3
    have h4 : bt (underP s) 0 = s.size := by
      unfold underP
      rw [append_assoc', bt_append, if_pos (by show 0 < 1; omega)]
      show (UInt8.ofNat s.size).toNat = _
      rw [UInt8.toNat_ofNat_of_lt' (by simpa using (show s.size < 256 by omega))]
    rw [e] at h4
    have h5 : bt serviceB 0 = 5 := by decide
    omega
  rcases zone_mem h with (⟨k, rfl⟩ | rfl) | ⟨u, hu2, rfl | ⟨ht, rfl⟩⟩ | ⟨u, hu2, ha, _, rfl⟩ | ⟨u, hu2, rfl⟩
  · exact ⟨fun e => absurd e ho, fun e => absurd e (by show ¬ (6 : Int) = 33; decide)⟩
  · exact ⟨fun e => absurd e ho, fun e => absurd e (by show ¬ (2 : Int) = 33; decide)⟩
  · obtain ⟨hn, _⟩ := up_good hu2
    refine ⟨fun e => absurd e (hu _ hn.2.1 hn.2.2), fun e => absurd e ?_⟩
    show ¬ kindOf u = 33
    rcases kind_of u with q | q <;> rw [q] <;> decide
  · obtain ⟨hn, _⟩ := up_good hu2
    exact ⟨fun e => absurd e (hu _ hn.2.1 hn.2.2), fun e => absurd e (by show ¬ (16 : Int) = 33; decide)⟩
  · obtain ⟨hn, hal⟩ := up_good hu2
    have hl : labelOk u.alias := by
      rcases hal.1 with q | q
      · exact absurd q ha
      · exact q
    exact ⟨fun e => absurd e (hu _ hl.2.1 hl.2.2), fun e => absurd e (by show ¬ (5 : Int) = 33; decide)⟩
  · exact ⟨fun _ => rfl, fun _ => rfl⟩

end Go.Proofs.YtdhobdmhnocbgabGreat

namespace Go.Proofs.YtdhobdmhnocbgabGreat
open Go.RowKit Zr

/-- Each set has all records of a name and its type. -/
def KindZ (z : List RI) (L : List ST) : Prop := ∀ s, s ∈ L → ∃ n, s.l = ofP z n s.kind ∧ s.l ≠ []
theorem KindZ.want {z : List RI} {L : List ST} (h : KindZ z L) (p : Nat) (n : ByteArray) (t : Int) : KindZ z (wantP z L p n t) := by
  intro s hs
  unfold wantP at hs
  split at hs
  · exact h s hs
  · next hne =>
    rcases List.mem_append.1 hs with q | q
    · exact h s q
    · rw [List.mem_singleton] at q
      subst q
      exact ⟨n, rfl, hne⟩
theorem KindZ.nil (z : List RI) : KindZ z [] := fun s hs => by cases hs
theorem wantTo_end (z : List RI) (n : ByteArray) (L : List ST) (j : Nat) (k : z.length ≤ j) : wantTo z n L (j + 1) = wantTo z n L j := by
  show (match z[j]? with | none => _ | some x => _ : List ST) = _
  rw [List.getElem?_eq_none k]
/-- All sets of a name. -/
def NameZ (z : List RI) (n : ByteArray) (L : List ST) : Prop := ∀ s, s ∈ L → s.l = ofP z n s.kind ∧ s.l ≠ [] ∧ s.part = 0
theorem NameZ.want {z : List RI} {n : ByteArray} {L : List ST} (h : NameZ z n L) (t : Int) : NameZ z n (wantP z L 0 n t) := by
  intro s hs
  unfold wantP at hs
  split at hs
  · exact h s hs
  · next hne =>
    rcases List.mem_append.1 hs with q | q
    · exact h s q
    · rw [List.mem_singleton] at q
      subst q
      exact ⟨rfl, hne, rfl⟩
theorem NameZ.all (z : List RI) (n : ByteArray) : ∀ j, NameZ z n (wantTo z n [] j)
  | 0 => fun s hs => by simp [wantTo] at hs
  | j + 1 => by
    have ih := NameZ.all z n j
    rcases Nat.lt_or_ge j z.length with k | k
    · rw [wantTo_step z n [] j k]
      split
      · exact ih.want _
      · exact ih
    · rw [wantTo_end z n [] j k]
      exact ih
theorem NameZ.kind {z : List RI} {n : ByteArray} {L : List ST} (h : NameZ z n L) : KindZ z L := fun s hs => ⟨n, (h s hs).1, (h s hs).2.1⟩
theorem KindZ.answ (z : List RI) (n : ByteArray) (t : Int) : KindZ z (answP z [] n t) := by
  unfold answP
  split
  · exact (NameZ.all z n _).kind
  · split
    · exact (KindZ.nil z).want _ _ _
    · exact ((KindZ.nil z).want _ _ _).want _ _ _
theorem KindZ.main (z : List RI) (n : ByteArray) (t : Int) : KindZ z (mainP z n t) := by
  unfold mainP soaP
  split
  · exact KindZ.answ z n t
  · exact (KindZ.answ z n t).want _ _ _

/-- Something but extra records is left out. -/
def CutAt (S : List ST) (c : Nat) : Prop := ∃ i, c ≤ i ∧ ∃ h : i < S.length, S[i].part ≠ 2
theorem flag_to (S : List ST) (c f : Nat) : ∀ j, j ≤ S.length → ((∃ i, c ≤ i ∧ i < j ∧ ∃ h : i < S.length, S[i].part ≠ 2) → flagTo S c f j = f ||| 512) ∧ ((¬ ∃ i, c ≤ i ∧ i < j ∧ ∃ h : i < S.length, S[i].part ≠ 2) → flagTo S c f j = f)
  | 0, _ => ⟨fun ⟨i, _, h, _⟩ => by omega, fun _ => rfl⟩
  | j + 1, hj => by
    obtain ⟨h1, h2⟩ := flag_to S c f j (by omega)
    rw [cut_step S c f j (by omega)]
    by_cases q : c ≤ j ∧ S[j].part ≠ 2
    · rw [if_pos q]
      refine ⟨fun _ => ?_, fun h => absurd ⟨j, q.1, by omega, by omega, q.2⟩ h⟩
      by_cases r : ∃ i, c ≤ i ∧ i < j ∧ ∃ h : i < S.length, S[i].part ≠ 2
      · rw [h1 r, Nat.or_assoc]
        rfl
      · rw [h2 r]
    · rw [if_neg q]
      have hh : (∃ i, c ≤ i ∧ i < j + 1 ∧ ∃ h : i < S.length, S[i].part ≠ 2) → ∃ i, c ≤ i ∧ i < j ∧ ∃ h : i < S.length, S[i].part ≠ 2 := fun ⟨i, a, b, h, d⟩ => by
        rcases Nat.lt_or_ge i j with k | k
        · exact ⟨i, a, k, h, d⟩
        · have : i = j := by omega
          subst this
          exact absurd ⟨a, d⟩ q
      exact ⟨fun h => h1 (hh h), fun h => h2 fun ⟨i, a, b, r⟩ => h ⟨i, a, by omega, r⟩⟩
theorem flag_cut (S : List ST) (c f : Nat) : (CutAt S c → flagTo S c f S.length = f ||| 512) ∧ (¬ CutAt S c → flagTo S c f S.length = f) := by
  obtain ⟨h1, h2⟩ := flag_to S c f S.length (Nat.le_refl _)
  exact ⟨fun ⟨i, a, h, d⟩ => h1 ⟨i, a, h, h, d⟩, fun h => h2 fun ⟨i, a, _, r⟩ => h ⟨i, a, r⟩⟩
theorem part_cut (S : List ST) (c p : Nat) : partP S p = partP (S.take c) p ++ partP (S.drop c) p := by
  unfold partP
  rw [← List.flatMap_append, ← List.filter_append, List.take_append_drop]
theorem part_all (S : List ST) (hne : ∀ s, s ∈ S → s.l ≠ []) (h2 : ∀ s, s ∈ S → s.part ≤ 2) (c : Nat) : ((partP (S.take c) 0).length = (partP S 0).length ∧ (partP (S.take c) 1).length = (partP S 1).length) ↔ ¬ CutAt S c := by
  have hl : ∀ p, (partP S p).length = (partP (S.take c) p).length + (partP (S.drop c) p).length := fun p => by
    conv => lhs; rw [part_cut S c p]
    rw [List.length_append]
  constructor
  · rintro ⟨h0, h1⟩ ⟨i, hi, h, hp⟩
    have hmem : S[i] ∈ S.drop c := by
      rw [List.mem_iff_getElem]
      exact ⟨i - c, by rw [List.length_drop]; omega, by rw [List.getElem_drop]; congr 1; omega⟩
    have hpos : 0 < (partP (S.drop c) S[i].part).length := by
      obtain ⟨y, hy⟩ := List.exists_mem_of_ne_nil _ (hne _ (List.getElem_mem h))
      refine List.length_pos_of_mem (a := y) ?_
      exact List.mem_flatMap.2 ⟨S[i], List.mem_filter.2 ⟨hmem, decide_eq_true rfl⟩, hy⟩
    have h3 := h2 _ (List.getElem_mem h)
    have e0 := hl 0
    have e1 := hl 1
    have : S[i].part = 0 ∨ S[i].part = 1 := by omega
    rcases this with q | q <;> rw [q] at hpos <;> omega
  · intro hc
    have hn : ∀ p, p ≠ 2 → partP (S.drop c) p = [] := fun p hp => partP_none fun s hs q => by
      obtain ⟨k, hk, e⟩ := List.mem_iff_getElem.1 hs
      rw [List.length_drop] at hk
      rw [List.getElem_drop] at e
      exact hc ⟨c + k, by omega, by omega, by rw [e, q]; exact hp⟩
    have e0 := hl 0
    have e1 := hl 1
    rw [hn 0 (by omega)] at e0
    rw [hn 1 (by omega)] at e1
    simp only [List.length_nil] at e0 e1
    omega

theorem fl_no (g t : Nat) : ((32768 ||| (g &&& 30976)) ||| t % 16) &&& 512 = 0 ∧ ((32768 ||| (g &&& 30976) ||| 1024) ||| t % 16) &&& 512 = 0 := by
  have h1 : (t % 16) &&& 512 = 0 := (by decide : ∀ t, t < 16 → t &&& 512 = 0) _ (by omega)
  have h2 : (g &&& 30976) &&& 512 = 0 := by rw [Nat.and_assoc, show 30976 &&& 512 = 0 by decide, Nat.and_zero]
  constructor
  · rw [Nat.and_or_distrib_right, Nat.and_or_distrib_right, h1, h2, show 32768 &&& 512 = 0 by decide]
    rfl
  · rw [Nat.and_or_distrib_right, Nat.and_or_distrib_right, Nat.and_or_distrib_right, h1, h2, show 32768 &&& 512 = 0 by decide, show 1024 &&& 512 = 0 by decide]
    rfl
theorem or_and (f : Nat) : (f ||| 512) &&& 512 = 512 := by
  rw [Nat.and_or_distrib_right, Nat.and_self]
  have h : f &&& 512 ≤ 512 := Nat.and_le_right
  refine Nat.eq_of_testBit_eq fun i => ?_
  rw [Nat.testBit_or, Nat.testBit_and]
  cases f.testBit i <;> cases (512 : Nat).testBit i <;> rfl

end Go.Proofs.YtdhobdmhnocbgabGreat

namespace Go.Proofs.YtdhobdmhnocbgabGreat
open Go.RowKit Zr

def Turned (c d : Nat) : Prop := d = c ∨ (97 ≤ c ∧ c ≤ 122 ∧ d + 32 = c) ∨ (65 ≤ c ∧ c ≤ 90 ∧ d = c + 32)
/-- The same but for letters that are small or great. -/
def Flips (s t : ByteArray) : Prop := t.size = s.size ∧ ∀ i, i < s.size → Turned (bt s i) (bt t i)

/-- A name stands in itself; the origin in what is under it. -/
theorem within_self (n : ByteArray) (h : 0 < n.size) : withinAt n n 0 = true := by
  rw [withinAt, dif_pos h, if_pos (extract_all n)]
end Go.Proofs.YtdhobdmhnocbgabGreat

namespace Go.Proofs.YtdhobdmhnocbgabGreat
open Go.RowKit Zr

/-- The zone's own record. -/
noncomputable def soaR (l : List Ev) : RI := madeR originB 6 (soaB (incP (goodL l)).toNat)
theorem zone_rest (l : List Ev) : ∃ R, recordsM l = soaR l :: madeR originB 2 serverB :: R ∧ ∀ x, x ∈ R → x.ty ≠ 6 ∧ x.ty ≠ 2 := by
  refine ⟨(upM l).flatMap nodeR ++ (aliL l).map cnR ++ (upM l).map srvR, ?_, ?_⟩
  · unfold recordsM aliL soaR
    simp only [List.append_assoc, List.cons_append, List.nil_append]
  · intro x hx
    rcases List.mem_append.1 hx with hx | hx
    · rcases List.mem_append.1 hx with hx | hx
      · obtain ⟨u, _, hx⟩ := List.mem_flatMap.1 hx
        obtain ⟨_, hk, _⟩ := nodeR_name hx
        omega
      · obtain ⟨u, _, rfl⟩ := List.mem_map.1 hx
        exact ⟨by show (5 : Int) ≠ 6; decide, by show (5 : Int) ≠ 2; decide⟩
    · obtain ⟨u, _, rfl⟩ := List.mem_map.1 hx
      exact ⟨by show (33 : Int) ≠ 6; decide, by show (33 : Int) ≠ 2; decide⟩
theorem soa_of (l : List Ev) : ofP (recordsM l) originB 6 = [soaR l] := by
  obtain ⟨R, hR, h6⟩ := zone_rest l
  unfold ofP
  have e1 : (fun x : RI => decide (x.name = originB ∧ x.ty = 6)) (soaR l) = true := decide_eq_true ⟨rfl, rfl⟩
  have e2 : ¬ (fun x : RI => decide (x.name = originB ∧ x.ty = 6)) (madeR originB 2 serverB) = true := fun h => absurd (of_decide_eq_true h).2 (by show ¬ (2 : Int) = 6; decide)
  have e3 : R.filter (fun x : RI => decide (x.name = originB ∧ x.ty = 6)) = [] := List.filter_eq_nil_iff.2 fun x hx h => (h6 x hx).1 (of_decide_eq_true h).2
  rw [hR, List.filter_cons_of_pos (p := fun x : RI => decide (x.name = originB ∧ x.ty = 6)) e1, List.filter_cons_of_neg (p := fun x : RI => decide (x.name = originB ∧ x.ty = 6)) e2, e3]
theorem soa_set (l : List Ev) (L : List ST) : soaP (recordsM l) L = L ++ [⟨1, 6, [soaR l]⟩] := by
  unfold soaP wantP
  rw [soa_of, if_neg (by simp)]

/-- A question of the class IN at or below the origin, with nothing beside it. -/
def askM (id : Int) (n : ByteArray) (t : Int) : MI := ⟨id, 0, [⟨n, t, 1⟩], [], [], []⟩
theorem of_count (z : List RI) (n : ByteArray) (t : Int) : (ofP z n t).length = havP z n t := by
  unfold ofP havP
  rw [← List.countP_eq_length_filter]

end Go.Proofs.YtdhobdmhnocbgabGreat

namespace Go.Proofs.YtdhobdmhnocbgabGreat
open Go.RowKit Zr

/-- Each set of the list is whole. -/
def WholeL (part z : List RI) : Prop := ∀ x, x ∈ part → ofP part x.name x.ty = ofP z x.name x.ty

theorem of_cat (A B : List RI) (n : ByteArray) (t : Int) : ofP (A ++ B) n t = ofP A n t ++ ofP B n t := by
  unfold ofP
  rw [List.filter_append]
theorem of_none {A : List RI} {n : ByteArray} {t : Int} (h : ∀ x, x ∈ A → ¬ (x.name = n ∧ x.ty = t)) : ofP A n t = [] := by
  unfold ofP
  rw [List.filter_eq_nil_iff]
  intro x hx
  rw [decide_eq_true_iff]
  exact h x hx
theorem of_self (z : List RI) (n : ByteArray) (t : Int) : ofP (ofP z n t) n t = ofP z n t := by
  unfold ofP
  rw [List.filter_filter]
  simp
theorem of_mem {z : List RI} {n : ByteArray} {t : Int} {x : RI} (h : x ∈ ofP z n t) : x ∈ z ∧ x.name = n ∧ x.ty = t := by
  obtain ⟨h1, h2⟩ := List.mem_filter.1 h
  exact ⟨h1, of_decide_eq_true h2⟩

def Split2 (a b : ST) : Prop := ∀ x, x ∈ a.l → ∀ y, y ∈ b.l → ¬ (x.name = y.name ∧ x.ty = y.ty)
def Sets (z : List RI) (T : List ST) : Prop := ∀ s, s ∈ T → ∃ n t, s.l = ofP z n t

theorem flat_none {T : List ST} {n : ByteArray} {t : Int} (h : ∀ s, s ∈ T → ∀ x, x ∈ s.l → ¬ (x.name = n ∧ x.ty = t)) : ofP (T.flatMap ST.l) n t = [] :=
  of_none fun x hx => by obtain ⟨s, hs, hx⟩ := List.mem_flatMap.1 hx; exact h s hs x hx

theorem whole_flat {z : List RI} {T : List ST} (hs : Sets z T) (hp : T.Pairwise Split2) : WholeL (T.flatMap ST.l) z := by
  intro x hx
  obtain ⟨s, hsT, hxs⟩ := List.mem_flatMap.1 hx
  obtain ⟨A, B, rfl⟩ := List.append_of_mem hsT
  obtain ⟨n, t, hl⟩ := hs s hsT
  obtain ⟨_, hp2, hp3⟩ := List.pairwise_append.1 hp
  obtain ⟨hp4, _⟩ := List.pairwise_cons.1 hp2
  have hx2 := hxs
  rw [hl] at hx2
  obtain ⟨_, hn, ht⟩ := of_mem hx2
  rw [List.flatMap_append, List.flatMap_cons, of_cat, of_cat]
  have e1 : ofP (A.flatMap ST.l) x.name x.ty = [] := flat_none fun a ha y hy => hp3 a ha s (by simp) y hy x hxs
  have e2 : ofP (B.flatMap ST.l) x.name x.ty = [] := flat_none fun b hb y hy h => hp4 b hb x hxs y hy ⟨h.1.symm, h.2.symm⟩
  rw [e1, e2, hl, ← hn, ← ht, of_self]
  simp

theorem whole_part {z : List RI} {S : List ST} (hs : Sets z S) (p : Nat) (hp : (S.filter fun s => decide (s.part = p)).Pairwise Split2) (c : Nat) : WholeL (partP (S.take c) p) z := by
  unfold partP
  refine whole_flat (fun s h => hs s (List.mem_of_mem_take (List.mem_filter.1 h).1)) ?_
  exact hp.sublist ((List.take_sublist c S).filter _)

theorem kinds_split {z : List RI} {a b : ST} (ha : ∃ n, a.l = ofP z n a.kind) (hb : ∃ n, b.l = ofP z n b.kind) (h : a.kind ≠ b.kind) : Split2 a b := by
  obtain ⟨n, hn⟩ := ha
  obtain ⟨m, hm⟩ := hb
  intro x hx y hy e
  rw [hn] at hx
  rw [hm] at hy
  exact h ((of_mem hx).2.2.symm.trans (e.2.trans (of_mem hy).2.2))

/-- The kinds of the sets of a name are all different. -/
def Kinds (L : List ST) : Prop := L.Pairwise fun a b => a.kind ≠ b.kind
theorem has_kind {L : List ST} {t : Int} (h : hasSetP L t = false) : ∀ s, s ∈ L → s.kind ≠ t := fun s hs e => by
  unfold hasSetP at h
  rw [List.any_eq_false] at h
  exact h s hs (decide_eq_true e)
theorem Kinds.want {z : List RI} {L : List ST} (h : Kinds L) (p : Nat) (n : ByteArray) (t : Int) (ht : ∀ s, s ∈ L → s.kind ≠ t) : Kinds (wantP z L p n t) := by
  unfold wantP
  split
  · exact h
  · refine List.pairwise_append.2 ⟨h, List.pairwise_singleton _ _, fun a ha b hb => ?_⟩
    rw [List.mem_singleton] at hb
    subst hb
    exact ht a ha
theorem Kinds.all (z : List RI) (n : ByteArray) : ∀ j, Kinds (wantTo z n [] j)
  | 0 => List.Pairwise.nil
  | j + 1 => by
    have ih := Kinds.all z n j
    rcases Nat.lt_or_ge j z.length with k | k
    · rw [wantTo_step z n [] j k]
      split
      · next hc => exact ih.want _ _ _ (has_kind hc.2)
      · exact ih
    · rw [wantTo_end z n [] j k]
      exact ih
theorem want_kind {z : List RI} {p : Nat} {n : ByteArray} {t : Int} : ∀ s, s ∈ wantP z [] p n t → s.kind = t := fun s hs => by
  unfold wantP at hs
  split at hs
  · simp at hs
  · rw [List.nil_append, List.mem_singleton] at hs
    subst hs
    rfl
theorem Kinds.answ (z : List RI) (n : ByteArray) (t : Int) : Kinds (answP z [] n t) := by
  unfold answP
  split
  · exact Kinds.all z n _
  · have h0 : Kinds ([] : List ST) := List.Pairwise.nil
    have h1 : Kinds (wantP z [] 0 n 5) := h0.want 0 n 5 fun s hs => by simp at hs
    split
    · exact h1
    · next hc => exact h1.want _ _ _ fun s hs => by rw [want_kind s hs]; exact fun e => hc e.symm

theorem KindZ.sets {z : List RI} {L : List ST} (h : KindZ z L) : Sets z L := fun s hs => by obtain ⟨n, hn, _⟩ := h s hs; exact ⟨n, _, hn⟩
theorem kinds_apart {z : List RI} {L : List ST} (h : KindZ z L) (hk : Kinds L) : L.Pairwise Split2 := by
  have : L.Pairwise fun a b => a ∈ L ∧ b ∈ L ∧ a.kind ≠ b.kind := by
    refine List.Pairwise.imp_of_mem (fun ha hb hr => ⟨ha, hb, hr⟩) hk
  refine this.imp fun ⟨ha, hb, hr⟩ => ?_
  obtain ⟨n, hn, _⟩ := h _ ha
  obtain ⟨m, hm, _⟩ := h _ hb
  exact kinds_split ⟨n, hn⟩ ⟨m, hm⟩ hr

/-- The address of a node is a set of one. -/
theorem host_set {l : List Ev} {y : RI} (hy : y ∈ recordsM l) (ht : y.ty = 1 ∨ y.ty = 28) : ofP (recordsM l) y.name y.ty = [y] ∧ ∃ u, u ∈ upM l ∧ y.name = underP u.node := by
  have hform : ∃ u, u ∈ upM l ∧ y = madeR (underP u.node) (kindOf u) u.addr := by
    rcases zone_mem hy with (⟨k, rfl⟩ | rfl) | ⟨u, hu, rfl | ⟨_, rfl⟩⟩ | ⟨u, hu, _, _, rfl⟩ | ⟨u, hu, rfl⟩
    · exact absurd ht (by show ¬ ((6 : Int) = 1 ∨ (6 : Int) = 28); decide)
    · exact absurd ht (by show ¬ ((2 : Int) = 1 ∨ (2 : Int) = 28); decide)
    · exact ⟨u, hu, rfl⟩
    · exact absurd ht (by show ¬ ((16 : Int) = 1 ∨ (16 : Int) = 28); decide)
    · exact absurd ht (by show ¬ ((5 : Int) = 1 ∨ (5 : Int) = 28); decide)
    · exact absurd ht (by show ¬ ((33 : Int) = 1 ∨ (33 : Int) = 28); decide)
  obtain ⟨u, hu, rfl⟩ := hform
  refine ⟨?_, u, hu, rfl⟩
  have he : u ∈ upP l := by rw [← up_same]; exact hu
  have hk := kind_of u
  have h1 := of_count (recordsM l) (underP u.node) (kindOf u)
  have h2 : havP (recordsM l) (underP u.node) (kindOf u) = 1 := by
    rw [records_same, hav_one he (kindOf u) (by omega), if_pos rfl]
    split
    · rfl
    · rw [if_neg (by omega)]
  rw [h2] at h1
  obtain ⟨x, hx⟩ := List.length_eq_one_iff.1 h1
  have h3 : madeR (underP u.node) (kindOf u) u.addr ∈ ofP (recordsM l) (underP u.node) (kindOf u) := List.mem_filter.2 ⟨hy, decide_eq_true ⟨rfl, rfl⟩⟩
  rw [hx, List.mem_singleton] at h3
  show ofP (recordsM l) (underP u.node) (kindOf u) = _
  rw [hx, h3]

/-- What the hosts add. -/
def HostT (z sv : List RI) (j : Nat) (t : ST) : Prop := ∃ i y, i < j ∧ t = ⟨2, y.ty, [y]⟩ ∧ y ∈ z ∧ (y.ty = 1 ∨ y.ty = 28) ∧ ∃ h : i < sv.length, y.name = targetP sv[i].data
theorem host_is {node : ByteArray} {x : RI} (h : isHostP node x = true) : x.name = node ∧ (x.ty = 1 ∨ x.ty = 28) := of_decide_eq_true h
theorem hosts_apart (z sv : List RI) (L : List ST) (hd : sv.Pairwise fun a b => targetP a.data ≠ targetP b.data) : ∀ j, j ≤ sv.length → ∃ T, (hostsTo z sv L j).2 = L ++ T ∧ (∀ t, t ∈ T → HostT z sv j t) ∧ T.Pairwise Split2
  | 0, _ => ⟨[], by simp [hostsTo], fun t ht => by simp at ht, List.Pairwise.nil⟩
  | j + 1, hj => by
    obtain ⟨T, hT, hH, hP⟩ := hosts_apart z sv L hd j (by omega)
    have hup : ∀ t, HostT z sv j t → HostT z sv (j + 1) t := fun t ⟨i, y, h1, h2⟩ => ⟨i, y, by omega, h2⟩
    obtain ⟨s1, s2⟩ := hosts_step z sv L j (by omega)
    rcases Nat.lt_or_ge (seekP z (targetP sv[j].data) (hostsTo z sv L j).1) z.length with k | k
    · have hh := host_is (seek_host z (targetP sv[j].data) _ _ (Nat.le_refl _) k)
      rw [s1 k]
      simp only
      rw [hT]
      refine ⟨T ++ [⟨2, z[seekP z (targetP sv[j].data) (hostsTo z sv L j).1].ty, [z[seekP z (targetP sv[j].data) (hostsTo z sv L j).1]]⟩], List.append_assoc _ _ _, fun t ht => ?_, ?_⟩
      · rcases List.mem_append.1 ht with q | q
        · exact hup t (hH t q)
        · rw [List.mem_singleton] at q
          exact ⟨j, _, by omega, q, List.getElem_mem k, hh.2, by omega, hh.1⟩
      · refine List.pairwise_append.2 ⟨hP, List.pairwise_singleton _ _, fun a ha b hb => ?_⟩
        rw [List.mem_singleton] at hb
        subst hb
        obtain ⟨i, y, hi, rfl, _, _, hi2, hy⟩ := hH a ha
        intro x hx v hv e
        rw [List.mem_singleton] at hx hv
        subst hx
        subst hv
        have hne := List.pairwise_iff_getElem.1 hd i j hi2 (by omega) hi
        exact hne (hy.symm.trans (e.1.trans hh.1))
    · rw [s2 k]
      exact ⟨T, hT, fun t ht => hup t (hH t ht), hP⟩

theorem srv_target (u : Ev) : targetP (srvR u).data = underP u.node := by
  obtain ⟨h1, h2⟩ := srv_data u
  unfold targetP
  rw [if_neg (by omega)]
  exact h2
theorem srv_list (l : List Ev) (n : ByteArray) : (ofP (recordsM l) n 33).Pairwise fun a b => targetP a.data ≠ targetP b.data := by
  have e : ofP (recordsM l) n 33 = ofP ((upM l).map srvR) n 33 := by
    have h0 : recordsM l = ([soaR l, madeR originB 2 serverB] ++ (upM l).flatMap nodeR ++ (aliL l).map cnR) ++ (upM l).map srvR := rfl
    rw [h0, of_cat, of_none (A := [soaR l, madeR originB 2 serverB] ++ (upM l).flatMap nodeR ++ (aliL l).map cnR), List.nil_append]
    intro x hx h
    rcases List.mem_append.1 hx with hx | hx
    · rcases List.mem_append.1 hx with hx | hx
      · simp only [List.mem_cons, List.mem_nil_iff, or_false] at hx
        rcases hx with rfl | rfl
        · exact absurd h.2 (by show ¬ (6 : Int) = 33; decide)
        · exact absurd h.2 (by show ¬ (2 : Int) = 33; decide)
      · obtain ⟨u, _, hx⟩ := List.mem_flatMap.1 hx
        obtain ⟨_, hk, _⟩ := nodeR_name hx
        omega
    · obtain ⟨u, _, rfl⟩ := List.mem_map.1 hx
      exact absurd h.2 (by show ¬ (5 : Int) = 33; decide)
  rw [e]
  unfold ofP
  refine List.Pairwise.filter _ (List.pairwise_map.2 ((up_rising l).imp fun {a b} h => ?_))
  rw [srv_target, srv_target]
  exact fun e => ltS_ne h (under_inj e)

theorem services_apart (l : List Ev) {L : List ST} (h : KindZ (recordsM l) L) : (servicesP L).Pairwise fun a b => targetP a.data ≠ targetP b.data := by
  unfold servicesP
  split
  · exact List.Pairwise.nil
  · next s hs =>
    have h2 := List.find?_some hs
    have h2' : s.kind = 33 := by simpa using h2
    obtain ⟨n, h3, _⟩ := h s (List.mem_of_find?_eq_some hs)
    rw [h3, h2']
    exact srv_list l n

theorem filter_same {L : List ST} {p : Nat} (h : ∀ s, s ∈ L → s.part = p) : (L.filter fun s => decide (s.part = p)) = L := List.filter_eq_self.2 fun s hs => decide_eq_true (h s hs)
theorem filter_none {L : List ST} {p : Nat} (h : ∀ s, s ∈ L → s.part ≠ p) : (L.filter fun s => decide (s.part = p)) = [] := List.filter_eq_nil_iff.2 fun s hs => by rw [decide_eq_true_iff]; exact h s hs

/-- How the sets of an answer lie: answers, the zone's own record or not, hosts. -/
theorem sets_form (l : List Ev) (n : ByteArray) (t : Int) : ∃ A U T, setsP (recordsM l) n t = A ++ U ++ T ∧ (A = [] ∨ A = answP (recordsM l) [] n t) ∧ (hasP (recordsM l) n = true → A = answP (recordsM l) [] n t) ∧ (∀ s, s ∈ A → s.part = 0) ∧ (U = [] ∨ U = [⟨1, 6, [soaR l]⟩]) ∧ (∀ s, s ∈ T → s.part = 2 ∧ ∃ y, s.l = [y] ∧ y ∈ recordsM l ∧ (y.ty = 1 ∨ y.ty = 28)) ∧ T.Pairwise Split2 := by
  unfold setsP
  split
  · obtain ⟨T, hT, hH, hP⟩ := hosts_apart (recordsM l) (servicesP (mainP (recordsM l) n t)) (mainP (recordsM l) n t) (services_apart l (KindZ.main _ n t)) _ (Nat.le_refl _)
    have hA : ∀ s, s ∈ answP (recordsM l) [] n t → s.part = 0 := fun s hs => by have := (parted_answ (recordsM l) n t).2 s hs; omega
    have hTT : ∀ s, s ∈ T → s.part = 2 ∧ ∃ y, s.l = [y] ∧ y ∈ recordsM l ∧ (y.ty = 1 ∨ y.ty = 28) := fun s hs => by
      obtain ⟨i, y, _, rfl, h1, h2, _⟩ := hH s hs
      exact ⟨rfl, y, rfl, h1, h2⟩
    unfold hostsP
    rw [hT]
    unfold mainP
    split
    · exact ⟨_, [], T, by rw [List.append_nil], .inr rfl, fun _ => rfl, hA, .inl rfl, hTT, hP⟩
    · exact ⟨_, _, T, by rw [soa_set], .inr rfl, fun _ => rfl, hA, .inr rfl, hTT, hP⟩
  · next hh => exact ⟨[], _, [], by rw [soa_set]; rfl, .inl rfl, fun h => absurd h hh, fun s hs => by simp at hs, .inr rfl, fun s hs => by simp at hs, List.Pairwise.nil⟩

theorem sets_whole (l : List Ev) (n : ByteArray) (t : Int) (c p : Nat) (hp : p ≤ 2) : WholeL (partP ((setsP (recordsM l) n t).take c) p) (recordsM l) := by
  obtain ⟨A, U, T, hS, hA, _, hA0, hU, hT, hTP⟩ := sets_form l n t
  have hAK : KindZ (recordsM l) A := by
    rcases hA with h | h
    · rw [h]; exact KindZ.nil _
    · rw [h]; exact KindZ.answ _ n t
  have hAk : Kinds A := by
    rcases hA with h | h
    · rw [h]; exact List.Pairwise.nil
    · rw [h]; exact Kinds.answ _ n t
  have hUp : ∀ s, s ∈ U → s.part = 1 ∧ s.l = ofP (recordsM l) originB 6 := fun s hs => by
    rcases hU with h | h
    · rw [h] at hs; simp at hs
    · rw [h, List.mem_singleton] at hs
      subst hs
      exact ⟨rfl, (soa_of l).symm⟩
  rw [hS]
  refine whole_part ?_ p ?_ c
  · intro s hs
    rcases List.mem_append.1 hs with hs | hs
    · rcases List.mem_append.1 hs with hs | hs
      · exact hAK.sets s hs
      · exact ⟨_, _, (hUp s hs).2⟩
    · obtain ⟨_, y, hy, hz, ht⟩ := hT s hs
      exact ⟨y.name, y.ty, by rw [hy, (host_set hz ht).1]⟩
  · rw [List.filter_append, List.filter_append]
    have c0 : p = 0 ∨ p = 1 ∨ p = 2 := by omega
    rcases c0 with rfl | rfl | rfl
    · rw [filter_same hA0, filter_none (fun s hs => by rw [(hUp s hs).1]; decide), filter_none (fun s hs => by rw [(hT s hs).1]; decide), List.append_nil, List.append_nil]
      exact kinds_apart hAK hAk
    · rw [filter_none (fun s hs => by rw [hA0 s hs]; decide), filter_same (fun s hs => (hUp s hs).1), filter_none (fun s hs => by rw [(hT s hs).1]; decide), List.append_nil, List.nil_append]
      rcases hU with h | h
      · rw [h]; exact List.Pairwise.nil
      · rw [h]; exact List.pairwise_singleton _ _
    · rw [filter_none (fun s hs => by rw [hA0 s hs]; decide), filter_none (fun s hs => by rw [(hUp s hs).1]; decide), filter_same (fun s hs => (hT s hs).1), List.nil_append, List.nil_append]
      exact hTP

/-- A name with an alias has nothing else. -/
theorem alias_alone {l : List Ev} {x y : RI} (hx : x ∈ recordsM l) (hy : y ∈ recordsM l) (h5 : x.ty = 5) (hn : y.name = x.name) : y.ty = 5 := by
  have hform : ∃ u, u ∈ upM l ∧ labelOk u.alias ∧ ¬ isUp (upM l) u.alias ∧ x.name = underP u.alias := by
    rcases zone_mem hx with (⟨k, rfl⟩ | rfl) | ⟨u, hu, rfl | ⟨_, rfl⟩⟩ | ⟨u, hu, ha, hup, rfl⟩ | ⟨u, hu, rfl⟩
    · exact absurd h5 (by show ¬ (6 : Int) = 5; decide)
    · exact absurd h5 (by show ¬ (2 : Int) = 5; decide)
    · have := kind_of u
      have h6 : kindOf u = 5 := h5
      omega
    · exact absurd h5 (by show ¬ (16 : Int) = 5; decide)
    · refine ⟨u, hu, ?_, hup, rfl⟩
      rcases (up_good hu).2.1 with q | q
      · exact absurd q ha
      · exact q
    · exact absurd h5 (by show ¬ (33 : Int) = 5; decide)
  obtain ⟨u, hu, hl, hup, hxn⟩ := hform
  rw [hxn] at hn
  have hs := under_size u.alias
  have hl1 := hl.2.1
  have ho : originB.size = 10 := rfl
  rcases zone_mem hy with (⟨k, rfl⟩ | rfl) | ⟨v, hv, rfl | ⟨_, rfl⟩⟩ | ⟨v, hv, ha, _, rfl⟩ | ⟨v, hv, rfl⟩
  · have := congrArg ByteArray.size (show originB = underP u.alias from hn)
    omega
  · have := congrArg ByteArray.size (show originB = underP u.alias from hn)
    omega
  · exact absurd ⟨v, hv, under_inj hn⟩ hup
  · exact absurd ⟨v, hv, under_inj hn⟩ hup
  · rfl
  · have h7 := (service_kind hx).1 (hxn.trans (show underP u.alias = serviceB from hn.symm))
    omega

theorem zone_kinds {l : List Ev} {x : RI} (h : x ∈ recordsM l) : x.ty ≠ 255 := by
  rcases zone_mem h with (⟨k, rfl⟩ | rfl) | ⟨u, hu, rfl | ⟨_, rfl⟩⟩ | ⟨u, hu, ha, hup, rfl⟩ | ⟨u, hu, rfl⟩
  · show (6 : Int) ≠ 255; decide
  · show (2 : Int) ≠ 255; decide
  · show kindOf u ≠ 255
    have := kind_of u
    omega
  · show (16 : Int) ≠ 255; decide
  · show (5 : Int) ≠ 255; decide
  · show (33 : Int) ≠ 255; decide

theorem want_flat (z : List RI) (L : List ST) (p : Nat) (n : ByteArray) (t : Int) : (wantP z L p n t).flatMap ST.l = L.flatMap ST.l ++ ofP z n t := by
  unfold wantP
  split
  · next h => rw [h, List.append_nil]
  · rw [List.flatMap_append]
    simp

/-- The set that was asked for is there. -/
theorem sets_asked (l : List Ev) (n : ByteArray) (t : Int) (hn : 0 < n.size) : ofP (partP (setsP (recordsM l) n t) 0) n t = ofP (recordsM l) n t := by
  obtain ⟨A, U, T, hS, hA, hA1, hA0, hU, hT, _⟩ := sets_form l n t
  have hUp : ∀ s, s ∈ U → s.part ≠ 0 := fun s hs => by
    rcases hU with h | h
    · rw [h] at hs; simp at hs
    · rw [h, List.mem_singleton] at hs
      subst hs
      show ¬ (1 : Nat) = 0
      decide
  have hpart : partP (setsP (recordsM l) n t) 0 = A.flatMap ST.l := by
    unfold partP
    rw [hS, List.filter_append, List.filter_append, filter_same hA0, filter_none hUp, filter_none (fun s hs => by rw [(hT s hs).1]; decide), List.append_nil, List.append_nil]
  rw [hpart]
  by_cases hh : hasP (recordsM l) n = true
  · rw [hA1 hh]
    by_cases c : t = 255
    · subst c
      rw [of_none (A := recordsM l) fun x hx e => zone_kinds hx e.2]
      refine flat_none fun s hs x hx e => ?_
      obtain ⟨m, hm, _⟩ := KindZ.answ _ _ _ s hs
      rw [hm] at hx
      exact zone_kinds (of_mem hx).1 e.2
    · unfold answP
      rw [if_neg c]
      by_cases c5 : t = 5
      · rw [if_pos c5, want_flat, c5]
        show ofP (_ ++ _) n 5 = _
        rw [List.flatMap_nil, List.nil_append, of_self]
      · rw [if_neg c5, want_flat, want_flat, List.flatMap_nil, List.nil_append, of_cat]
        have e5 : ofP (ofP (recordsM l) n 5) n t = [] := of_none fun x hx e => c5 (e.2.symm.trans (of_mem hx).2.2)
        rw [e5, List.nil_append]
        cases h5 : ofP (recordsM l) n 5 with
        | nil =>
          have : aimP (recordsM l) n = n := by unfold aimP; rw [h5]
          rw [this, of_self]
        | cons x X =>
          by_cases ca : aimP (recordsM l) n = n
          · rw [ca, of_self]
          · have hx := of_mem (show x ∈ ofP (recordsM l) n 5 by rw [h5]; simp)
            rw [of_none (A := ofP (recordsM l) (aimP (recordsM l) n) t) fun y hy e => ca ((of_mem hy).2.1.symm.trans e.1)]
            symm
            exact of_none fun y hy e => c5 (e.2.symm.trans (alias_alone hx.1 hy hx.2.2 (e.1.trans hx.2.1.symm)))
  · have hz : ofP (recordsM l) n t = [] := of_none fun x hx e => hh (by
      unfold hasP
      rw [List.any_eq_true]
      exact ⟨x, hx, by rw [e.1]; exact within_self n hn⟩)
    rw [hz]
    refine flat_none fun s hs x hx e => ?_
    rcases hA with h | h
    · rw [h] at hs; simp at hs
    · rw [h] at hs
      obtain ⟨m, hm, _⟩ := KindZ.answ _ _ _ s hs
      rw [hm] at hx
      have h1 := (of_mem hx).1
      have : x ∈ ofP (recordsM l) n t := List.mem_filter.2 ⟨h1, decide_eq_true e⟩
      rw [hz] at this
      simp at this

end Go.Proofs.YtdhobdmhnocbgabGreat

namespace Go.Proofs.YtdhobdmhnocbgabGreat
open Go.RowKit Zr

set_option maxRecDepth 100000 in
set_option maxHeartbeats 2000000 in
theorem small_k (s : ByteArray) (w : World) (hs : s.size ≤ 4294967296) :
    Calls Tryz.prog 13 #[.string s] w fun e w' => e = .returned (.string (smallP s)) ∧ Below w.heap.size w w' := by
  obtain ⟨i0, hi, hz0, hz1, hz2⟩ := info_parts Tryz.info5
  have Hi := hide hi
  have Hz0 := hide hz0
  have Hz1 := hide hz1
  have Hz2 := hide hz2
  clear hi hz0 hz1 hz2
  obtain ⟨N, hN⟩ : ∃ N, w.heap.size = N := ⟨_, rfl⟩
  rw [hN]
  go_enter Tryz.func13, Tryz.ntmps13
  go_wp2_with fail
  go_loopg [3, 4] (s.size + 1) (fun g vb vi w' => ∃ (j : Nat) (ab : Option Addr) (cb : Nat), vi = .int .i64 j ∧ j ≤ s.size ∧ g = s.size + 1 - j ∧ vb = .slice ab j cb ∧ Hid (w'.ownsRow N 5 1 (.slice ab j cb) j (byteCells (smallTo s j))) ∧ Hid (Below N w w') ∧ N ≤ w'.heap.size)
  case atStart => exact ⟨0, none, 0, rfl, Nat.zero_le _, rfl, rfl, hide (World.ownsRow_nil _ _ _ _), hide (Below.refl _ _), by omega⟩
  case round =>
    obtain ⟨j, ab, cb, rfl, hj, rfl, rfl, HO, HB, hNw⟩ := hrel
    by_cases cj : j < s.size
    · have hg := bt_get s j cj
      have hlt := bt_lt s j
      have hT : smallTo s (j + 1) = smallTo s j ++ one (lowC (bt s j)) := rfl
      have HT := hide hT
      clear hT
      have hcase : (bt s j < 65 ∧ lowC (bt s j) = bt s j) ∨ (90 < bt s j ∧ lowC (bt s j) = bt s j) ∨ (65 ≤ bt s j ∧ bt s j ≤ 90 ∧ lowC (bt s j) = bt s j + 32) := by
        unfold lowC
        by_cases c1 : bt s j < 65
        · exact .inl ⟨c1, if_neg (by omega)⟩
        · by_cases c2 : 90 < bt s j
          · exact .inr (.inl ⟨c2, if_neg (by omega)⟩)
          · exact .inr (.inr ⟨by omega, by omega, if_pos (by omega)⟩)
      generalize bt s j = c at *
      generalize smallTo s j = B at *
      rcases hcase with ⟨c1, hc⟩ | ⟨c1, hc⟩ | ⟨c1, c2, hc⟩
      all_goals
        rw [hc] at HT
        clear hc
      · go_wp2_with (at_builtin; refine wpList_append_row _ rfl _ _ 70 70 rfl N 5 i0 (.int .u8 0) 1 1 Tryz.underlying70 (unhide Hi) (unhide Hz0) (unhide Hz1) (unhide Hz2) rfl (.slice ab j cb) j (byteCells B) (by rfl) ((unhide HO).alloc _) (.slice (some ⟨wr.heap.size, 0, none⟩) 1 1) 1 [.int .u8 (c : Nat)] (by rfl) (Src.ofSlice _ Tryz.underlying70 ⟨wr.heap.size, 0, none⟩ 1 1 _ rfl (an_cell1 _ _ _ _ rfl) (fun x hx => by simp at hx; rcases hx with rfl <;> rfl)) (by unfold maxLen; omega) (by omega) (by simp; omega) ?_; intro a1 e1 w2 hown2 hgrow2 hat2)
        go_roundg (s.size + 1 - (j + 1))
        case measure => omega
        case rel =>
          refine ⟨j + 1, a1, e1, by go_num, by omega, rfl, rfl, ?_, hide (((unhide HB).alloc hNw _).trans (below_append ((unhide HO).alloc _) hgrow2 (by simp; omega))), ?_⟩
          · rw [unhide HT, byteCells_append, one_cells _ (by omega)]; exact hide hown2
          · have := hgrow2.size; simp at this; omega
      · go_wp2_with (at_builtin; refine wpList_append_row _ rfl _ _ 70 70 rfl N 5 i0 (.int .u8 0) 1 1 Tryz.underlying70 (unhide Hi) (unhide Hz0) (unhide Hz1) (unhide Hz2) rfl (.slice ab j cb) j (byteCells B) (by rfl) ((unhide HO).alloc _) (.slice (some ⟨wr.heap.size, 0, none⟩) 1 1) 1 [.int .u8 (c : Nat)] (by rfl) (Src.ofSlice _ Tryz.underlying70 ⟨wr.heap.size, 0, none⟩ 1 1 _ rfl (an_cell1 _ _ _ _ rfl) (fun x hx => by simp at hx; rcases hx with rfl <;> rfl)) (by unfold maxLen; omega) (by omega) (by simp; omega) ?_; intro a1 e1 w2 hown2 hgrow2 hat2)
        go_roundg (s.size + 1 - (j + 1))
        case measure => omega
        case rel =>
          refine ⟨j + 1, a1, e1, by go_num, by omega, rfl, rfl, ?_, hide (((unhide HB).alloc hNw _).trans (below_append ((unhide HO).alloc _) hgrow2 (by simp; omega))), ?_⟩
          · rw [unhide HT, byteCells_append, one_cells _ (by omega)]; exact hide hown2
          · have := hgrow2.size; simp at this; omega
      · go_wp2_with (at_builtin; refine wpList_append_row _ rfl _ _ 70 70 rfl N 5 i0 (.int .u8 0) 1 1 Tryz.underlying70 (unhide Hi) (unhide Hz0) (unhide Hz1) (unhide Hz2) rfl (.slice ab j cb) j (byteCells B) (by rfl) ((unhide HO).alloc _) (.slice (some ⟨wr.heap.size, 0, none⟩) 1 1) 1 [.int .u8 ((c : Int) + 97 - 65)] (by rfl) (Src.ofSlice _ Tryz.underlying70 ⟨wr.heap.size, 0, none⟩ 1 1 _ rfl (an_cell1 _ _ _ _ rfl) (fun x hx => by simp at hx; rcases hx with rfl <;> rfl)) (by unfold maxLen; omega) (by omega) (by simp; omega) ?_; intro a1 e1 w2 hown2 hgrow2 hat2)
        go_roundg (s.size + 1 - (j + 1))
        case measure => omega
        case rel =>
          refine ⟨j + 1, a1, e1, by go_num, by omega, rfl, rfl, ?_, hide (((unhide HB).alloc hNw _).trans (below_append ((unhide HO).alloc _) hgrow2 (by simp; omega))), ?_⟩
          · have e3 : ((c : Int) + 97 - 65) = ((c + 32 : Nat) : Int) := by omega
            rw [e3] at hown2
            rw [unhide HT, byteCells_append, one_cells _ (by omega)]; exact hide hown2
          · have := hgrow2.size; simp at this; omega
    · have ej : j = s.size := by omega
      subst ej
      have eB : (smallP s).size = s.size := smallP_size s
      have hP : smallTo s s.size = smallP s := rfl
      have ho := unhide HO
      rw [hP, ← eB] at ho
      obtain ⟨B, hB⟩ : ∃ B, smallP s = B := ⟨_, rfl⟩
      rw [hB] at ho eB
      go_wp2_with fail
      rw [← eB]
      rw [run_bytes_row _ 70 9 5 Tryz.underlying70 Tryz.underlying5 Tryz.underlying9 N _ B ho]
      clear ho
      go_wp2_with fail
      go_ret
      exact ⟨by rw [hB]; rfl, unhide HB⟩

end Go.Proofs.YtdhobdmhnocbgabGreat

namespace Go.Proofs.YtdhobdmhnocbgabGreat
open Go.RowKit Zr

theorem of_take (P : List RI) (n : ByteArray) (t : Int) (k : Nat) (h : k < P.length) : ((P[k].name = n ∧ P[k].ty = t) → ofP (P.take (k + 1)) n t = ofP (P.take k) n t ++ [P[k]]) ∧ (¬ (P[k].name = n ∧ P[k].ty = t) → ofP (P.take (k + 1)) n t = ofP (P.take k) n t) := by
  rw [List.take_succ_eq_append_getElem h, of_cat]
  constructor
  · intro q
    unfold ofP
    rw [List.filter_cons_of_pos (p := fun x : RI => decide (x.name = n ∧ x.ty = t)) (decide_eq_true q)]
    rfl
  · intro q
    rw [of_none (A := [P[k]]) fun x hx => by rw [List.mem_singleton] at hx; subst hx; exact q, List.append_nil]
theorem of_le (P : List RI) (n : ByteArray) (t : Int) : (ofP P n t).length ≤ P.length := List.length_filter_le _ _
theorem wh_cell5 (w : World) (B : Nat) (x0 x1 x2 x3 x4 : Value) (t : TypeId) (h : w.heap.size = B) : ∀ j u, [x0, x1, x2, x3, x4][j]? = some u → (w.alloc (.cells #[x0, x1, x2, x3, x4] t)).cell? ((⟨B, 0, none⟩ : Addr).add j) = some u := by
  subst h
  exact World.news_of_block (cs := #[x0, x1, x2, x3, x4]) (heap_alloc_new w _)
theorem wh_one5 {n d : ByteArray} {t c l : Int} : ∀ x, x ∈ ([.string n, .int .i64 t, .int .i64 c, .int .i64 l, .string d] : List Value) → x.oneCell' = true := by
  intro x hx
  simp only [List.mem_cons, List.mem_nil_iff, or_false] at hx
  rcases hx with rfl | rfl | rfl | rfl | rfl <;> rfl
theorem rcI_last (l : List RI) (x : RI) : rcI (l ++ [x]) = rcI l ++ [.string x.name, .int .i64 x.ty, .int .i64 x.cl, .int .i64 x.ttl, .string x.data] := by unfold rcI; rw [List.flatMap_append]; rfl

set_option maxRecDepth 100000 in
set_option maxHeartbeats 8000000 in
theorem whole_k (P z : List RI) (ap az : Option Addr) (cp cz N : Nat) (w : World) (hP : RowAt w N ap (rcI P)) (hz : RowAt w N az (rcI z)) (hN : N ≤ w.heap.size) (hlp : P.length ≤ 16777216) (hlz : z.length ≤ 16777216) (hw : WholeL P z) :
    Calls Tryz.prog 12 #[.slice ap P.length cp, .slice az z.length cz] w fun e w' => e = .returned (.bool true) ∧ Below w.heap.size w w' := by
  have HP := hide hP
  have HZ := hide hz
  have HW := hide hw
  obtain ⟨i0, hi, hz0, hz1, hz2⟩ := info_parts Tryz.info33
  have Hi := hide hi
  have Hz0 := hide hz0
  have Hz1 := hide hz1
  have Hz2 := hide hz2
  clear hi hz0 hz1 hz2 hP hz hw
  go_enter Tryz.func12, Tryz.ntmps12
  go_wp2_with fail
  go_loopg [5] (P.length + 1) (fun g vi w' => ∃ j : Nat, vi = .int .i64 j ∧ j ≤ P.length ∧ g = P.length + 1 - j ∧ Hid (Below w.heap.size w w'))
  case atStart => exact ⟨0, rfl, Nat.zero_le _, rfl, hide (Below.refl _ _)⟩
  case round =>
    obtain ⟨j, rfl, hj, rfl, HB⟩ := hrel
    by_cases cj : j < P.length
    · obtain ⟨b, o, hap, hb, x0, x1, x2, x3, x4⟩ := row_r ((unhide HP).below ((unhide HB).mono hN)) j cj
      have HWj := hide (unhide HW P[j] (List.getElem_mem cj))
      obtain ⟨k, hk⟩ : ∃ k, P[j] = k := ⟨_, rfl⟩
      rw [hk] at x0 x1 x2 x3 x4 HWj
      obtain ⟨nm, ty, kl, tl, dt⟩ := k
      simp only at x0 x1 x2 x3 x4 HWj
      have hbX := (Below.refl wr.heap.size wr).alloc (Nat.le_refl _) (.cells #[.string nm, .int .i64 ty, .int .i64 kl, .int .i64 tl, .string dt] 33)
      have HX1 := hide (heap_alloc_new wr (.cells #[.string nm, .int .i64 ty, .int .i64 kl, .int .i64 tl, .string dt] 33))
      have hB1 := (unhide HB).trans (hbX.mono (unhide HB).size)
      have HP1 := hide ((unhide HP).below (hB1.mono hN))
      have HZ1 := hide ((unhide HZ).below (hB1.mono hN))
      have HB1 := hide hB1
      have hNw : N ≤ (wr.alloc (.cells #[.string nm, .int .i64 ty, .int .i64 kl, .int .i64 tl, .string dt] 33)).heap.size := Nat.le_trans hN hB1.size
      clear hbX hB1 hk HB
      subst hap
      go_wp2_with fail
      clear x0 x1 x2 x3 x4 hb
      generalize wr.alloc (.cells #[.string nm, .int .i64 ty, .int .i64 kl, .int .i64 tl, .string dt] 33) = w1 at *
      generalize wr.heap.size = X at *
      go_loopg [7, 9] (P.length + 1) (fun g va vi w' => ∃ (k p : Nat) (aa : Option Addr) (ca : Nat), vi = .int .i64 k ∧ k ≤ P.length ∧ g = P.length + 1 - k ∧ va = .slice aa p ca ∧ p ≤ k ∧ Hid ((ofP (P.take k) nm ty).length = p) ∧ Hid (w'.ownsRow w1.heap.size 33 5 (.slice aa p ca) p (rcI (ofP (P.take k) nm ty))) ∧ Hid (Below w1.heap.size w1 w'))
      case atStart => exact ⟨0, 0, none, 0, rfl, Nat.zero_le _, rfl, rfl, Nat.le_refl _, hide rfl, hide (World.ownsRow_nil _ _ _ _), hide (Below.refl _ _)⟩
      case round =>
        obtain ⟨k, p, aa, ca, rfl, hk, rfl, rfl, hp, HLn, HO, HC⟩ := hrel
        by_cases ck : k < P.length
        · obtain ⟨b', o', hap, hb, y0, y1, y2, y3, y4⟩ := row_r ((unhide HP1).below ((unhide HC).mono hNw)) k ck
          obtain ⟨t1, t2⟩ := of_take P nm ty k ck
          obtain ⟨q, hq⟩ : ∃ q, P[k] = q := ⟨_, rfl⟩
          rw [hq] at y0 y1 y2 y3 y4 t1 t2
          have T1 := hide t1
          have T2 := hide t2
          obtain ⟨qn, qt, qk, ql, qd⟩ := q
          simp only at y0 y1 y2 y3 y4
          obtain ⟨⟨x0, x1, x2, x3, x4⟩, _⟩ := cells5 (((unhide HC).block X (blk_lt (unhide HX1))).trans (unhide HX1))
          have lX : X < wr.heap.size := Nat.lt_of_lt_of_le (blk_lt (unhide HX1)) (unhide HC).size
          have hsw := (unhide HC).size
          simp only [Option.some.injEq, Addr.mk.injEq] at hap
          obtain ⟨rfl, rfl, _⟩ := hap
          have hbw : b < wr.heap.size := by omega
          obtain ⟨res, hres⟩ : ∃ res, decide (qn = nm ∧ qt = ty) = res := ⟨_, rfl⟩
          have HRes := hide hres
          clear t1 t2 hq hres
          go_upto_region 10 with fail
          go_cut [45] (fun v w' => v = .bool res ∧ ∃ nd, w' = wr.drewN nd)
          case first =>
            by_cases c1 : qn = nm
            · have f1 := strs_eq c1
              by_cases c2 : qt = ty
              · have f2 : (qt == ty) = true := by rw [beq_iff_eq]; exact c2
                obtain rfl : res = true := by rw [← unhide HRes]; exact decide_eq_true ⟨c1, c2⟩
                clear c1 c2
                go_region
                all_goals go_wp2_with fail
                all_goals go_meet
                all_goals exact ⟨rfl, 1, rfl⟩
              · have f2 : (qt == ty) = false := by rw [beq_eq_false_iff_ne]; exact c2
                obtain rfl : res = false := by rw [← unhide HRes]; exact decide_eq_false fun h => c2 h.2
                clear c1 c2
                go_region
                all_goals go_wp2_with fail
                all_goals go_meet
                all_goals exact ⟨rfl, 1, rfl⟩
            · have f1 := strs_ne c1
              obtain rfl : res = false := by rw [← unhide HRes]; exact decide_eq_false fun h => c1 h.1
              clear c1
              go_region
              all_goals go_wp2_with fail
              all_goals go_meet
              all_goals exact ⟨rfl, 1, rfl⟩
          case rest =>
            obtain ⟨rfl, nd, hwc⟩ := hcut
            have hc : Below wr.heap.size wr wc := by rw [hwc]; exact below_drewA (Below.refl _ _) nd
            have hC2 := (unhide HC).trans (hc.mono hsw)
            have HO2 := hide (owns_below (unhide HO) hc)
            have hsc := hc.size
            have y0' : wc.cell? ⟨b, o + k * 5, none⟩ = some (.string qn) := by rw [hwc]; exact y0
            have y1' : wc.cell? ⟨b, o + k * 5 + 1, none⟩ = some (.int .i64 qt) := by rw [hwc]; exact y1
            have y2' : wc.cell? ⟨b, o + k * 5 + 2, none⟩ = some (.int .i64 qk) := by rw [hwc]; exact y2
            have y3' : wc.cell? ⟨b, o + k * 5 + 3, none⟩ = some (.int .i64 ql) := by rw [hwc]; exact y3
            have y4' : wc.cell? ⟨b, o + k * 5 + 4, none⟩ = some (.string qd) := by rw [hwc]; exact y4
            have hbc : b < wc.heap.size := by omega
            have HC2 := hide hC2
            have hs2 : w1.heap.size ≤ wc.heap.size := hC2.size
            clear hwc hc hC2 y0 y1 y2 y3 y4 x0 x1 x2 x3 x4 lX hsc hbw hsw
            cases res with
            | true =>
              have HTk := hide (unhide T1 (of_decide_eq_true (unhide HRes)))
              clear T1 T2
              go_wp2_with (at_builtin; refine wpList_append_row _ rfl _ _ 25 25 rfl w1.heap.size 33 i0 (.agg #[.string ⟨#[]⟩, .int .i64 0, .int .i64 0, .int .i64 0, .string ⟨#[]⟩]) 5 56 Tryz.underlying25 (unhide Hi) (unhide Hz0) (unhide Hz1) (unhide Hz2) rfl (.slice aa p ca) p (rcI (ofP (P.take k) nm ty)) (by rfl) ((unhide HO2).alloc _) (.slice (some ⟨wc.heap.size, 0, none⟩) 1 1) 1 [.string qn, .int .i64 qt, .int .i64 qk, .int .i64 ql, .string qd] (by rfl) (Src.ofSlice _ Tryz.underlying25 ⟨wc.heap.size, 0, none⟩ 1 1 _ rfl (wh_cell5 _ _ _ _ _ _ _ _ rfl) wh_one5) (by unfold maxLen; omega) (by omega) (by simp; omega) ?_; intro a6 e6 w6 hown6 hgrow6 hat6; have hA6 := (Below.refl w1.heap.size wc).alloc hs2 (.cells #[.string qn, .int .i64 qt, .int .i64 qk, .int .i64 ql, .string qd] 33); have hB6 := hA6.trans (below_append ((unhide HO2).alloc _) hgrow6 (Nat.le_trans hs2 hA6.size)))
              go_roundg (P.length + 1 - (k + 1))
              case measure => omega
              case rel =>
                refine ⟨k + 1, p + 1, a6, e6, by go_num, by omega, rfl, rfl, by omega, hide ?_, hide ?_, hide ((unhide HC2).trans hB6)⟩
                · rw [unhide HTk, List.length_append, unhide HLn]; rfl
                · rw [unhide HTk, rcI_last]; exact hown6
            | false =>
              have HTk := hide (unhide T2 (of_decide_eq_false (unhide HRes)))
              clear T1 T2
              go_wp2_with fail
              go_roundg (P.length + 1 - (k + 1))
              case measure => omega
              case rel =>
                refine ⟨k + 1, p, aa, ca, by go_num, by omega, rfl, rfl, by omega, hide ?_, hide ?_, HC2⟩
                · rw [unhide HTk]; exact unhide HLn
                · rw [unhide HTk]; exact unhide HO2
        · have ek : k = P.length := by omega
          subst ek
          have ho := unhide HO
          have hln := unhide HLn
          rw [List.take_length] at ho hln
          have HOa := hide (owns_rowAt ho)
          have HLa := hide hln
          have HBa := HC
          clear ho hln HO HLn HC
          go_wp2_with fail
          obtain ⟨w2, hw2⟩ : ∃ w2, wr = w2 := ⟨_, rfl⟩
          rw [hw2] at HOa HBa ⊢
          clear hw2
          have HX2 := hide (((unhide HBa).block X (blk_lt (unhide HX1))).trans (unhide HX1))
          have HZ2 := hide ((unhide HZ1).below ((unhide HBa).mono hNw))
          have hNw2 : N ≤ w2.heap.size := Nat.le_trans hNw (unhide HBa).size
          go_loopg [8, 10] (z.length + 1) (fun g va vi w' => ∃ (k p : Nat) (aa : Option Addr) (ca : Nat), vi = .int .i64 k ∧ k ≤ z.length ∧ g = z.length + 1 - k ∧ va = .slice aa p ca ∧ p ≤ k ∧ Hid ((ofP (z.take k) nm ty).length = p) ∧ Hid (w'.ownsRow w2.heap.size 33 5 (.slice aa p ca) p (rcI (ofP (z.take k) nm ty))) ∧ Hid (Below w2.heap.size w2 w'))
          case atStart => exact ⟨0, 0, none, 0, rfl, Nat.zero_le _, rfl, rfl, Nat.le_refl _, hide rfl, hide (World.ownsRow_nil _ _ _ _), hide (Below.refl _ _)⟩
          case round =>
            obtain ⟨k, p2, a2, ca2, rfl, hk, rfl, rfl, hp, HLn, HO, HC⟩ := hrel
            by_cases ck : k < z.length
            · obtain ⟨b', o', hap, hb, y0, y1, y2, y3, y4⟩ := row_r ((unhide HZ2).below ((unhide HC).mono hNw2)) k ck
              obtain ⟨t1, t2⟩ := of_take z nm ty k ck
              obtain ⟨q, hq⟩ : ∃ q, z[k] = q := ⟨_, rfl⟩
              rw [hq] at y0 y1 y2 y3 y4 t1 t2
              have T1 := hide t1
              have T2 := hide t2
              obtain ⟨qn, qt, qk, ql, qd⟩ := q
              simp only at y0 y1 y2 y3 y4
              obtain ⟨⟨x0, x1, x2, x3, x4⟩, _⟩ := cells5 (((unhide HC).block X (blk_lt (unhide HX2))).trans (unhide HX2))
              have lX : X < wr.heap.size := Nat.lt_of_lt_of_le (blk_lt (unhide HX2)) (unhide HC).size
              have hsw := (unhide HC).size
              subst hap
              have hbw : b' < wr.heap.size := by omega
              obtain ⟨res, hres⟩ : ∃ res, decide (qn = nm ∧ qt = ty) = res := ⟨_, rfl⟩
              have HRes := hide hres
              clear t1 t2 hq hres
              go_upto_region 15 with fail
              go_cut [76] (fun v w' => v = .bool res ∧ ∃ nd, w' = wr.drewN nd)
              case first =>
                by_cases c1 : qn = nm
                · have f1 := strs_eq c1
                  by_cases c2 : qt = ty
                  · have f2 : (qt == ty) = true := by rw [beq_iff_eq]; exact c2
                    obtain rfl : res = true := by rw [← unhide HRes]; exact decide_eq_true ⟨c1, c2⟩
                    clear c1 c2
                    go_region
                    all_goals go_wp2_with fail
                    all_goals go_meet
                    all_goals exact ⟨rfl, 1, rfl⟩
                  · have f2 : (qt == ty) = false := by rw [beq_eq_false_iff_ne]; exact c2
                    obtain rfl : res = false := by rw [← unhide HRes]; exact decide_eq_false fun h => c2 h.2
                    clear c1 c2
                    go_region
                    all_goals go_wp2_with fail
                    all_goals go_meet
                    all_goals exact ⟨rfl, 1, rfl⟩
                · have f1 := strs_ne c1
                  obtain rfl : res = false := by rw [← unhide HRes]; exact decide_eq_false fun h => c1 h.1
                  clear c1
                  go_region
                  all_goals go_wp2_with fail
                  all_goals go_meet
                  all_goals exact ⟨rfl, 1, rfl⟩
              case rest =>
                obtain ⟨rfl, nd, hwc⟩ := hcut
                have hc : Below wr.heap.size wr wc := by rw [hwc]; exact below_drewA (Below.refl _ _) nd
                have hC2 := (unhide HC).trans (hc.mono hsw)
                have HO2 := hide (owns_below (unhide HO) hc)
                have hsc := hc.size
                have y0' : wc.cell? ⟨b', o' + k * 5, none⟩ = some (.string qn) := by rw [hwc]; exact y0
                have y1' : wc.cell? ⟨b', o' + k * 5 + 1, none⟩ = some (.int .i64 qt) := by rw [hwc]; exact y1
                have y2' : wc.cell? ⟨b', o' + k * 5 + 2, none⟩ = some (.int .i64 qk) := by rw [hwc]; exact y2
                have y3' : wc.cell? ⟨b', o' + k * 5 + 3, none⟩ = some (.int .i64 ql) := by rw [hwc]; exact y3
                have y4' : wc.cell? ⟨b', o' + k * 5 + 4, none⟩ = some (.string qd) := by rw [hwc]; exact y4
                have hbc : b' < wc.heap.size := by omega
                have HC2 := hide hC2
                have hs2 : w2.heap.size ≤ wc.heap.size := hC2.size
                clear hwc hc hC2 y0 y1 y2 y3 y4 x0 x1 x2 x3 x4 lX hsc hbw hsw
                cases res with
                | true =>
                  have HTk := hide (unhide T1 (of_decide_eq_true (unhide HRes)))
                  clear T1 T2
                  go_wp2_with (at_builtin; refine wpList_append_row _ rfl _ _ 25 25 rfl w2.heap.size 33 i0 (.agg #[.string ⟨#[]⟩, .int .i64 0, .int .i64 0, .int .i64 0, .string ⟨#[]⟩]) 5 56 Tryz.underlying25 (unhide Hi) (unhide Hz0) (unhide Hz1) (unhide Hz2) rfl (.slice a2 p2 ca2) p2 (rcI (ofP (z.take k) nm ty)) (by rfl) ((unhide HO2).alloc _) (.slice (some ⟨wc.heap.size, 0, none⟩) 1 1) 1 [.string qn, .int .i64 qt, .int .i64 qk, .int .i64 ql, .string qd] (by rfl) (Src.ofSlice _ Tryz.underlying25 ⟨wc.heap.size, 0, none⟩ 1 1 _ rfl (wh_cell5 _ _ _ _ _ _ _ _ rfl) wh_one5) (by unfold maxLen; omega) (by omega) (by simp; omega) ?_; intro a6 e6 w6 hown6 hgrow6 hat6; have hA6 := (Below.refl w2.heap.size wc).alloc hs2 (.cells #[.string qn, .int .i64 qt, .int .i64 qk, .int .i64 ql, .string qd] 33); have hB6 := hA6.trans (below_append ((unhide HO2).alloc _) hgrow6 (Nat.le_trans hs2 hA6.size)))
                  go_roundg (z.length + 1 - (k + 1))
                  case measure => omega
                  case rel =>
                    refine ⟨k + 1, p2 + 1, a6, e6, by go_num, by omega, rfl, rfl, by omega, hide ?_, hide ?_, hide ((unhide HC2).trans hB6)⟩
                    · rw [unhide HTk, List.length_append, unhide HLn]; rfl
                    · rw [unhide HTk, rcI_last]; exact hown6
                | false =>
                  have HTk := hide (unhide T2 (of_decide_eq_false (unhide HRes)))
                  clear T1 T2
                  go_wp2_with fail
                  go_roundg (z.length + 1 - (k + 1))
                  case measure => omega
                  case rel =>
                    refine ⟨k + 1, p2, a2, ca2, by go_num, by omega, rfl, rfl, by omega, hide ?_, hide ?_, HC2⟩
                    · rw [unhide HTk]; exact unhide HLn
                    · rw [unhide HTk]; exact unhide HO2
            · have ek : k = z.length := by omega
              subst ek
              have ho := unhide HO
              have hln := unhide HLn
              rw [List.take_length] at ho hln
              have hob := owns_rowAt ho
              have hoa := ((unhide HOa).below (unhide HC)).mono (unhide HC).size
              rw [unhide HWj] at hoa
              have hla := unhide HLa
              rw [unhide HWj] at hla
              have hle := of_le z nm ty
              have KK := hide (sameRecordsK (ofP z nm ty) aa a2 ca ca2 _ _ wr hoa hob (by omega))
              rw [hla] at hln
              subst hln
              rw [hla] at KK
              have HBz := hide ((unhide HB1).trans (((unhide HBa).trans ((unhide HC).mono (unhide HBa).size)).mono (unhide HB1).size))
              clear ho hob hoa hla hle HO HLn HC
              go_wp2_with fail
              refine (unhide KK).mono ?_
              rintro e w9 ⟨rfl, nd, rfl⟩
              have HB9 := hide (below_drewA (unhide HBz) nd)
              generalize wr.drewN nd = w9 at *
              go_wp2_with fail
              go_roundg (P.length + 1 - (j + 1))
              case measure => omega
              case rel => exact ⟨j + 1, by go_num, by omega, rfl, HB9⟩
    · have ej : j = P.length := by omega
      go_wp2_with fail
      go_ret
      exact ⟨rfl, unhide HB⟩

end Go.Proofs.YtdhobdmhnocbgabGreat

namespace Go.Proofs.YtdhobdmhnocbgabGreat
open Go.RowKit Zr

theorem fl_own (g t : Nat) : ((32768 ||| (g &&& 30976)) ||| t % 16) &&& 1024 = 0 ∧ ((32768 ||| (g &&& 30976) ||| 1024) ||| t % 16) &&& 1024 = 1024 := by
  have h1 : (t % 16) &&& 1024 = 0 := (by decide : ∀ t, t < 16 → t &&& 1024 = 0) _ (by omega)
  have h2 : (g &&& 30976) &&& 1024 = 0 := by rw [Nat.and_assoc, show 30976 &&& 1024 = 0 by decide, Nat.and_zero]
  constructor
  · rw [Nat.and_or_distrib_right, Nat.and_or_distrib_right, h1, h2, show 32768 &&& 1024 = 0 by decide]
    rfl
  · rw [Nat.and_or_distrib_right, Nat.and_or_distrib_right, Nat.and_or_distrib_right, h1, h2, show 32768 &&& 1024 = 0 by decide, show 1024 &&& 1024 = 1024 by decide]
    rfl
theorem or_own (f : Nat) : (f ||| 512) &&& 1024 = f &&& 1024 := by
  rw [Nat.and_or_distrib_right, show 512 &&& 1024 = 0 by decide, Nat.or_zero]
theorem hav_len (z : List RI) (n : ByteArray) (t : Int) : havP z n t = (ofP z n t).length := (of_count z n t).symm
theorem RowAt.front {w : World} {N : Nat} {a : Option Addr} {xs ys : List Value} (h : RowAt w N a (xs ++ ys)) : RowAt w N a xs := by
  intro hx
  obtain ⟨b, o, h1, h2, h3⟩ := h (fun e => hx (List.append_eq_nil_iff.1 e).1)
  refine ⟨b, o, h1, h2, fun j u hu => h3 j u ?_⟩
  rw [List.getElem?_append_left (List.getElem?_eq_some_iff.1 hu).1]
  exact hu
theorem WholeL.nil (z : List RI) : WholeL [] z := fun x hx => by cases hx

/-- What an answer has of the zone. -/
theorem whole_p (id : Nat) (m : MI) (l : List Ev) (stream : Bool) (hm : msgOk m) (y : Rep) (hy : takeP id (32768 ||| (m.flags.toNat &&& 30976)) m l stream = y) (k : Nat) :
    ∃ f : Nat, (repMsg y k).flags = (f : Int) ∧ WholeL (repMsg y k).a (recordsM l) ∧ WholeL (repMsg y k).u (recordsM l) ∧ WholeL (partP (y.sets.take k) 2) (recordsM l) ∧
      ((∃ q, m.q = [q] ∧ wholeB q.name = true ∧ f &&& 1024 = 1024 ∧ (f &&& 512 = 512 ∨ (f &&& 512 = 0 ∧ havP (repMsg y k).a (smallP q.name) q.ty = havP (recordsM l) (smallP q.name) q.ty))) ∨
       (f &&& 1024 = 0 ∧ (repMsg y k).a = [] ∧ (repMsg y k).u = [] ∧ partP (y.sets.take k) 2 = [])) := by
  have hnone : ∀ (i fl' told : Nat) (q : List QI) (o : Bool) (lim : Nat), fl' = 32768 ||| (m.flags.toNat &&& 30976) → ∃ f : Nat, (repMsg ⟨i, fl', told, q, o, [], lim⟩ k).flags = (f : Int) ∧ WholeL (repMsg ⟨i, fl', told, q, o, [], lim⟩ k).a (recordsM l) ∧ WholeL (repMsg ⟨i, fl', told, q, o, [], lim⟩ k).u (recordsM l) ∧ WholeL (partP (([] : List ST).take k) 2) (recordsM l) ∧ (f &&& 1024 = 0 ∧ (repMsg ⟨i, fl', told, q, o, [], lim⟩ k).a = [] ∧ (repMsg ⟨i, fl', told, q, o, [], lim⟩ k).u = [] ∧ partP (([] : List ST).take k) 2 = []) := by
    intro i fl' told q o lim hf
    have e : ∀ p, partP (([] : List ST).take k) p = [] := fun p => by simp [partP]
    have ea : (repMsg ⟨i, fl', told, q, o, [], lim⟩ k).a = [] := e 0
    have eu : (repMsg ⟨i, fl', told, q, o, [], lim⟩ k).u = [] := e 1
    refine ⟨fl' ||| told % 16, rfl, ?_, ?_, ?_, ?_, ea, eu, e 2⟩
    · rw [ea]; exact WholeL.nil _
    · rw [eu]; exact WholeL.nil _
    · rw [e 2]; exact WholeL.nil _
    · rw [hf]; exact (fl_own _ _).1
  unfold takeP at hy
  split at hy
  · next q hq =>
    have hqn : wholeB q.name = true := by
      have h9 := (hm.2.2.1.2 0 (by rw [hq]; simp)).1
      simp only [hq, List.getElem_cons_zero] at h9
      exact h9
    split at hy
    · subst hy
      obtain ⟨f1, f2⟩ := flag_cut (setsP (recordsM l) (smallP q.name) q.ty) k (((32768 ||| (m.flags.toNat &&& 30976)) ||| 1024) ||| toldP (recordsM l) (smallP q.name) % 16)
      have h5 := (fl_no m.flags.toNat (toldP (recordsM l) (smallP q.name))).2
      have h10 := (fl_own m.flags.toNat (toldP (recordsM l) (smallP q.name))).2
      refine ⟨_, rfl, sets_whole l _ _ k 0 (by omega), sets_whole l _ _ k 1 (by omega), sets_whole l _ _ k 2 (by omega), .inl ⟨q, hq, hqn, ?_⟩⟩
      show flagTo (setsP (recordsM l) (smallP q.name) q.ty) k (((32768 ||| (m.flags.toNat &&& 30976)) ||| 1024) ||| toldP (recordsM l) (smallP q.name) % 16) (setsP (recordsM l) (smallP q.name) q.ty).length &&& 1024 = 1024 ∧ (flagTo (setsP (recordsM l) (smallP q.name) q.ty) k (((32768 ||| (m.flags.toNat &&& 30976)) ||| 1024) ||| toldP (recordsM l) (smallP q.name) % 16) (setsP (recordsM l) (smallP q.name) q.ty).length &&& 512 = 512 ∨ (flagTo (setsP (recordsM l) (smallP q.name) q.ty) k (((32768 ||| (m.flags.toNat &&& 30976)) ||| 1024) ||| toldP (recordsM l) (smallP q.name) % 16) (setsP (recordsM l) (smallP q.name) q.ty).length &&& 512 = 0 ∧ havP (partP ((setsP (recordsM l) (smallP q.name) q.ty).take k) 0) (smallP q.name) q.ty = havP (recordsM l) (smallP q.name) q.ty))
      by_cases c : CutAt (setsP (recordsM l) (smallP q.name) q.ty) k
      · rw [f1 c]
        exact ⟨by rw [or_own]; exact h10, .inl (or_and _)⟩
      · rw [f2 c]
        refine ⟨h10, .inr ⟨h5, ?_⟩⟩
        have hsub := (sets_all (recordsM l) (smallP q.name) q.ty).1
        obtain ⟨e0, _⟩ := (part_all _ (fun s hs => (hsub s hs).1) (fun s hs => (hsub s hs).2.1) k).2 c
        have hcut := part_cut (setsP (recordsM l) (smallP q.name) q.ty) k 0
        have hd : partP ((setsP (recordsM l) (smallP q.name) q.ty).drop k) 0 = [] := by
          have h9 := congrArg List.length hcut
          rw [List.length_append] at h9
          exact List.length_eq_zero_iff.1 (by omega)
        rw [hd, List.append_nil] at hcut
        rw [← hcut, hav_len, hav_len, sets_asked l _ _ (by rw [smallP_size]; exact (whole_pos hqn).1)]
    · subst hy
      obtain ⟨f, k1, k2, k3, k4, k5⟩ := hnone id _ (refusalP m.flags.toNat (lifeP m.x) q) [q] (optOfP m.x).isSome (limP (classP m.x) stream) rfl
      exact ⟨f, k1, k2, k3, k4, .inr k5⟩
  · subst hy
    obtain ⟨f, k1, k2, k3, k4, k5⟩ := hnone id _ 1 [] (optOfP m.x).isSome (limP (classP m.x) stream) rfl
    exact ⟨f, k1, k2, k3, k4, .inr k5⟩

end Go.Proofs.YtdhobdmhnocbgabGreat

namespace Go.Proofs.YtdhobdmhnocbgabGreat
open Go.RowKit Zr

set_option maxRecDepth 100000 in
set_option maxHeartbeats 4000000 in
theorem wholes_k (l : List Ev) (al : Option Addr) (cl : Nat) (a : Option Addr) (n c : Nat) (stream : Bool) (w : World) (hE : RowAt w w.heap.size al (evC l)) (hl : l.length ≤ 1048576) (hz : EvSized l) (hraw : RawAt w w.heap.size a n) (hn : n ≤ 9223372036854775807) :
    Calls Tryz.prog 3 #[.slice al l.length cl, .slice a n c, .bool stream] w fun e w' => e = .returned (.bool true) ∧ Below w.heap.size w w' := by
  have KA := hide (asked_k l al cl a n c w hE (by omega) hz hraw hn)
  have HE := hide hE
  have HZ := hide hz
  clear hE hraw hz
  go_enter Tryz.func3, Tryz.ntmps3
  go_wp2_with fail
  refine (unhide KA).mono ?_
  rintro e w1 ⟨m, v, rfl, hQ, hM, hb1⟩
  have hsz := que_size hQ
  have hmute := not_mute m hQ.ok hsz hQ.fl
  have hid0 := hQ.ok.1.1
  have hid1 := hQ.ok.1.2
  obtain ⟨kk1, kk2⟩ := kept_bounds m.flags.toNat
  have hr := take_ok m.id.toNat (32768 ||| (m.flags.toNat &&& 30976)) m l stream (by omega) kk1 kk2 hQ.ok
  have ks := fun (W : World) (hW : Below w.heap.size w W) => answered_k l al cl w.heap.size (writ m.nat).1 stream W ((unhide HE).below hW) hW.size hl (unhide HZ) hsz hmute
  rw [rep_of l m stream hQ.ok hsz] at ks
  have hone : ∀ d, Fitting (takeP m.id.toNat (32768 ||| (m.flags.toNat &&& 30976)) m l stream) d → msgOk (repMsg (takeP m.id.toNat (32768 ||| (m.flags.toNat &&& 30976)) m l stream) d) := fun d h => (ans_ok _ hr h).1
  have tk := fun c => take_kind m.id.toNat (32768 ||| (m.flags.toNat &&& 30976)) m l stream c
  have hfl := fun k => (rep_flags _ k hr).2
  have hwp := fun k => whole_p m.id.toNat m l stream hQ.ok _ rfl k
  obtain ⟨sb, hsb⟩ : ∃ sb, (writ m.nat).1 = sb := ⟨_, rfl⟩
  rw [hsb] at ks ⊢
  obtain ⟨y, hy⟩ : ∃ y, (takeP m.id.toNat (32768 ||| (m.flags.toNat &&& 30976)) m l stream) = y := ⟨_, rfl⟩
  rw [hy] at ks hone tk hfl hwp
  have KS := hide ks
  have HOne := hide hone
  have HTk := hide tk
  have HFl := hide hfl
  have HWp := hide hwp
  have KR := hide (fun (W : World) (hW : Below w.heap.size w W) => records_z l al cl w.heap.size W ((unhide HE).below hW) hW.size (by omega) (unhide HZ))
  obtain ⟨a1, c1, a2, c2, a3, c3, a4, c4, rfl, hrQ, _⟩ := hM
  clear ks hone tk hfl hwp hr kk1 kk2 hmute hsz hQ hy hsb KA hid0 hid1
  have hb2 := (Below.refl w1.heap.size w1).alloc (Nat.le_refl _) (.cells #[.int .i64 m.id, .int .i64 m.flags, .slice a1 m.q.length c1, .slice a2 m.a.length c2, .slice a3 m.u.length c3, .slice a4 m.x.length c4] 27)
  have HMb2 := hide (heap_alloc_new w1 (.cells #[.int .i64 m.id, .int .i64 m.flags, .slice a1 m.q.length c1, .slice a2 m.a.length c2, .slice a3 m.u.length c3, .slice a4 m.x.length c4] 27))
  have HRq2 := hide ((hrQ.below hb2).mono hb2.size)
  have HB2 := hide (hb1.trans (hb2.mono hb1.size))
  clear hb2 hb1 hrQ
  go_wp2_with fail
  generalize w1.alloc (.cells #[.int .i64 m.id, .int .i64 m.flags, .slice a1 m.q.length c1, .slice a2 m.a.length c2, .slice a3 m.u.length c3, .slice a4 m.x.length c4] 27) = w2 at *
  generalize w1.heap.size = PM at *
  refine (unhide KS _ (unhide HB2)).mono ?_
  rintro e w3 ⟨k, va, rfl, hf, hMa, hb3⟩
  have hokA := unhide HOne k hf
  obtain ⟨f, g1, g2, g3, g4, g5⟩ := unhide HWp k
  have hfa2 : f < 65536 := by
    have e : (repMsg y k).flags = ((flagTo y.sets k (y.fl ||| y.told % 16) y.sets.length : Nat) : Int) := rfl
    have h9 := unhide HFl k
    rw [g1] at e
    omega
  have hAx : (repMsg y k).x = partP (y.sets.take k) 2 ++ optsP y := rfl
  obtain ⟨A, hA⟩ : ∃ A, repMsg y k = A := ⟨_, rfl⟩
  rw [hA] at hMa hokA g1 g2 g3 g5 hAx ⊢
  obtain ⟨b1, d1, b2, d2, b3, d3, b4, d4, rfl, _, hrA, hrU, hrX, _, _, _, _, _, hdA, hdU, hdX⟩ := hMa
  rw [g1]
  have hlA := hokA.2.2.2.1.1
  have hlU := hokA.2.2.2.2.1.1
  have hlX := hokA.2.2.2.2.2.1
  have HRa3 := hide hrA
  have HRu3 := hide hrU
  have HRx3 := hide hrX
  have HRq3 := hide (((unhide HRq2).below hb3).mono hb3.size)
  have HMb3 := hide ((hb3.block PM (blk_lt (unhide HMb2))).trans (unhide HMb2))
  have HB3 := hide ((unhide HB2).trans (hb3.mono (unhide HB2).size))
  clear HRq2 HMb2 HB2 hb3
  have hb4 := (Below.refl w3.heap.size w3).alloc (Nat.le_refl _) (.cells #[.int .i64 A.id, .int .i64 (f : Nat), .slice b1 A.q.length d1, .slice b2 A.a.length d2, .slice b3 A.u.length d3, .slice b4 A.x.length d4] 27)
  have HAb4 := hide (heap_alloc_new w3 (.cells #[.int .i64 A.id, .int .i64 (f : Nat), .slice b1 A.q.length d1, .slice b2 A.a.length d2, .slice b3 A.u.length d3, .slice b4 A.x.length d4] 27))
  have HRa4 := hide (((unhide HRa3).below hb4).mono hb4.size)
  have HRu4 := hide (((unhide HRu3).below hb4).mono hb4.size)
  have HRx4 := hide (((unhide HRx3).below hb4).mono hb4.size)
  have HRq4 := hide (((unhide HRq3).below hb4).mono hb4.size)
  have HMb4 := hide ((hb4.block PM (blk_lt (unhide HMb3))).trans (unhide HMb3))
  have HB4 := hide ((unhide HB3).trans (hb4.mono (unhide HB3).size))
  clear HRa3 HRu3 HRx3 HRq3 HMb3 HB3 hb4
  have HOkA := hide hokA
  have HAx := hide hAx
  have HG2 := hide g2
  have HG3 := hide g3
  have HG4 := hide g4
  have HG5 := hide g5
  clear hrA hrU hrX hokA hAx g1 g2 g3 g4 g5 hA hf KS HOne HWp HFl
  go_wp2_with fail
  generalize w3.alloc (.cells #[.int .i64 A.id, .int .i64 (f : Nat), .slice b1 A.q.length d1, .slice b2 A.a.length d2, .slice b3 A.u.length d3, .slice b4 A.x.length d4] 27) = w4 at *
  generalize w3.heap.size = PA at *
  refine (unhide KR _ (unhide HB4)).mono ?_
  rintro e w5 ⟨az, cz, rfl, hoz, hb5⟩
  have HRa5 := hide (((unhide HRa4).below hb5).mono hb5.size)
  have HRu5 := hide (((unhide HRu4).below hb5).mono hb5.size)
  have HRx5 := hide (((unhide HRx4).below hb5).mono hb5.size)
  have HRq5 := hide (((unhide HRq4).below hb5).mono hb5.size)
  have HMb5 := hide ((hb5.block PM (blk_lt (unhide HMb4))).trans (unhide HMb4))
  have HAb5 := hide ((hb5.block PA (blk_lt (unhide HAb4))).trans (unhide HAb4))
  have HB5 := hide ((unhide HB4).trans (hb5.mono (unhide HB4).size))
  clear HRa4 HRu4 HRx4 HRq4 HMb4 HAb4 HB4 hb5
  have HRz5 := hide (own_atN hoz)
  have hzl2 : (recordsP l).length ≤ 16777216 := by have := zone_len l; rw [records_same] at this; omega
  have hzl1 : 2 ≤ (recordsP l).length := by
    obtain ⟨R, hR, _⟩ := zone_rest l
    rw [← records_same, hR]
    simp
  rw [records_same] at HG2 HG3 HG4 HG5
  obtain ⟨z, hzz⟩ : ∃ z, recordsP l = z := ⟨_, rfl⟩
  rw [hzz] at HG2 HG3 HG4 HG5 HRz5 hzl1 hzl2 ⊢
  clear hzz hoz KR
  obtain ⟨⟨m0, m1, m2, m3, m4, m5⟩, _⟩ := cells6 (unhide HMb5)
  obtain ⟨⟨n0, n1, n2, n3, n4, n5⟩, _⟩ := cells6 (unhide HAb5)
  have lm := blk_lt (unhide HMb5)
  have la := blk_lt (unhide HAb5)
  have KOa := hide (optOf_a y k A (unhide HAx) (unhide HOkA) (unhide HTk k) A.id (f : Nat) w5 b1 A.q.length d1 b2 A.a.length d2 b3 A.u.length d3 b4 d4 (unhide HRx5) hdX)
  go_wp2_with fail
  refine (unhide KOa).mono ?_
  rintro e w6 ⟨⟨⟨rn, rt, rc, rl, rd⟩, _, rfl⟩, hb6⟩
  clear m0 m1 m2 m3 m4 m5 n0 n1 n2 n3 n4 n5 lm la
  clear KOa
  have HRa6 := hide (((unhide HRa5).below hb6).mono hb6.size)
  have HRu6 := hide (((unhide HRu5).below hb6).mono hb6.size)
  have HRx6 := hide (((unhide HRx5).below hb6).mono hb6.size)
  have HRq6 := hide (((unhide HRq5).below hb6).mono hb6.size)
  have HRz6 := hide (((unhide HRz5).below hb6).mono hb6.size)
  have HMb6 := hide ((hb6.block PM (blk_lt (unhide HMb5))).trans (unhide HMb5))
  have HAb6 := hide ((hb6.block PA (blk_lt (unhide HAb5))).trans (unhide HAb5))
  have HB6 := hide ((unhide HB5).trans (hb6.mono (unhide HB5).size))
  clear HRa5 HRu5 HRx5 HRq5 HRz5 HMb5 HAb5 HB5 hb6
  dsimp only
  have hb7 := (Below.refl w6.heap.size w6).alloc (Nat.le_refl _) (.cells #[.string rn, .int .i64 rt, .int .i64 rc, .int .i64 rl, .string rd] 33)
  have HRa7 := hide (((unhide HRa6).below hb7).mono hb7.size)
  have HRu7 := hide (((unhide HRu6).below hb7).mono hb7.size)
  have HRx7 := hide (((unhide HRx6).below hb7).mono hb7.size)
  have HRq7 := hide (((unhide HRq6).below hb7).mono hb7.size)
  have HRz7 := hide (((unhide HRz6).below hb7).mono hb7.size)
  have HMb7 := hide ((hb7.block PM (blk_lt (unhide HMb6))).trans (unhide HMb6))
  have HAb7 := hide ((hb7.block PA (blk_lt (unhide HAb6))).trans (unhide HAb6))
  have HB7 := hide ((unhide HB6).trans (hb7.mono (unhide HB6).size))
  clear HRa6 HRu6 HRx6 HRq6 HRz6 HMb6 HAb6 HB6 hb7
  obtain ⟨⟨m0, m1, m2, m3, m4, m5⟩, _⟩ := cells6 (unhide HMb7)
  obtain ⟨⟨n0, n1, n2, n3, n4, n5⟩, _⟩ := cells6 (unhide HAb7)
  have lm := blk_lt (unhide HMb7)
  have la := blk_lt (unhide HAb7)
  have hrx := unhide HRx7
  rw [unhide HAx, rcI_cat] at hrx
  have hpl : (partP (y.sets.take k) 2).length ≤ A.x.length := by rw [unhide HAx, List.length_append]; omega
  have K1 := hide (whole_k A.a z b2 az d2 cz _ _ (unhide HRa7) (unhide HRz7) (Nat.le_refl _) (by omega) hzl2 (unhide HG2))
  have K2 := hide (fun (W : World) (h : Below (w6.alloc (.cells #[.string rn, .int .i64 rt, .int .i64 rc, .int .i64 rl, .string rd] 33)).heap.size (w6.alloc (.cells #[.string rn, .int .i64 rt, .int .i64 rc, .int .i64 rl, .string rd] 33)) W) => whole_k A.u z b3 az d3 cz _ W ((unhide HRu7).below h) ((unhide HRz7).below h) h.size (by omega) hzl2 (unhide HG3))
  have K3 := hide (fun (W : World) (h : Below (w6.alloc (.cells #[.string rn, .int .i64 rt, .int .i64 rc, .int .i64 rl, .string rd] 33)).heap.size (w6.alloc (.cells #[.string rn, .int .i64 rt, .int .i64 rc, .int .i64 rl, .string rd] 33)) W) => whole_k (partP (y.sets.take k) 2) z b4 az d4 cz _ W ((RowAt.front hrx).below h) ((unhide HRz7).below h) h.size (by omega) hzl2 (unhide HG4))
  clear hrx
  go_wp2_with fail
  generalize w6.alloc (.cells #[.string rn, .int .i64 rt, .int .i64 rc, .int .i64 rl, .string rd] 33) = w7 at *
  refine (unhide K1).mono ?_
  rintro e w8 ⟨rfl, hb8⟩
  clear m0 m1 m2 m3 m4 m5 n0 n1 n2 n3 n4 n5 lm la
  have HD8 := hide hb8
  clear K1
  have HRa8 := hide (((unhide HRa7).below hb8).mono hb8.size)
  have HRq8 := hide (((unhide HRq7).below hb8).mono hb8.size)
  have HRz8 := hide (((unhide HRz7).below hb8).mono hb8.size)
  have HMb8 := hide ((hb8.block PM (blk_lt (unhide HMb7))).trans (unhide HMb7))
  have HAb8 := hide ((hb8.block PA (blk_lt (unhide HAb7))).trans (unhide HAb7))
  have HB8 := hide ((unhide HB7).trans (hb8.mono (unhide HB7).size))
  clear HRa7 HRq7 HRz7 HMb7 HAb7 HB7 hb8
  obtain ⟨⟨m0, m1, m2, m3, m4, m5⟩, _⟩ := cells6 (unhide HMb8)
  obtain ⟨⟨n0, n1, n2, n3, n4, n5⟩, _⟩ := cells6 (unhide HAb8)
  have lm := blk_lt (unhide HMb8)
  have la := blk_lt (unhide HAb8)
  go_wp2_with fail
  refine (unhide K2 _ (unhide HD8)).mono ?_
  rintro e w9 ⟨rfl, hb9⟩
  clear m0 m1 m2 m3 m4 m5 n0 n1 n2 n3 n4 n5 lm la
  have HD9 := hide ((unhide HD8).trans (hb9.mono (unhide HD8).size))
  clear K2 HD8
  have HRa9 := hide (((unhide HRa8).below hb9).mono hb9.size)
  have HRq9 := hide (((unhide HRq8).below hb9).mono hb9.size)
  have HRz9 := hide (((unhide HRz8).below hb9).mono hb9.size)
  have HMb9 := hide ((hb9.block PM (blk_lt (unhide HMb8))).trans (unhide HMb8))
  have HAb9 := hide ((hb9.block PA (blk_lt (unhide HAb8))).trans (unhide HAb8))
  have HB9 := hide ((unhide HB8).trans (hb9.mono (unhide HB8).size))
  clear HRa8 HRq8 HRz8 HMb8 HAb8 HB8 hb9
  go_wp2_with fail
  refine (unhide K3 _ (unhide HD9)).mono ?_
  rintro e w10 ⟨rfl, hb10⟩
  clear K3 HD9
  have HRa10 := hide (((unhide HRa9).below hb10).mono hb10.size)
  have HRq10 := hide (((unhide HRq9).below hb10).mono hb10.size)
  have HRz10 := hide (((unhide HRz9).below hb10).mono hb10.size)
  have HMb10 := hide ((hb10.block PM (blk_lt (unhide HMb9))).trans (unhide HMb9))
  have HAb10 := hide ((hb10.block PA (blk_lt (unhide HAb9))).trans (unhide HAb9))
  have HB10 := hide ((unhide HB9).trans (hb10.mono (unhide HB9).size))
  clear HRa9 HRq9 HRz9 HMb9 HAb9 HB9 hb10
  obtain ⟨⟨m0, m1, m2, m3, m4, m5⟩, _⟩ := cells6 (unhide HMb10)
  obtain ⟨⟨n0, n1, n2, n3, n4, n5⟩, _⟩ := cells6 (unhide HAb10)
  have lm := blk_lt (unhide HMb10)
  have la := blk_lt (unhide HAb10)
  obtain ⟨np, hnp⟩ : ∃ np, (partP (y.sets.take k) 2).length = np := ⟨_, rfl⟩
  rw [hnp]
  have HNp := hide hnp
  clear hnp hpl
  have z2 : decide ((z.length : Int) < 2) = false := decide_eq_false (by omega)
  have h1024 := i64_and_nat f 1024 hfa2 (by decide)
  have h512 := i64_and_nat f 512 hfa2 (by decide)
  rcases unhide HG5 with ⟨q, q1, q2, q3, q4⟩ | ⟨q1, q2, q3, q4⟩
  · rw [q3] at h1024
    have hand1 : bits .and .i64 ((f : Nat) : Int) 1024 = 1024 := h1024
    have hml : m.q.length = 1 := by rw [q1]; rfl
    rw [hml] at m2
    rcases q4 with q4 | ⟨q4, q5⟩
    · rw [q4] at h512
      have hand2 : bits .and .i64 ((f : Nat) : Int) 512 = 512 := h512
      clear h1024 h512
      go_wp2_with fail
      go_ret
      exact ⟨rfl, unhide HB10⟩
    · rw [q4] at h512
      have hand2 : bits .and .i64 ((f : Nat) : Int) 512 = 0 := h512
      have hrq := unhide HRq10
      rw [q1] at hrq
      obtain ⟨b, o, hab, hb, y0, y1, y2⟩ := row_q hrq 0 (by simp)
      subst hab
      simp only [List.getElem_cons_zero, Nat.zero_mul, Nat.add_zero] at y0 y1
      have hql := whole_pos q2
      obtain ⟨qn, hqn⟩ : ∃ qn, q.name = qn := ⟨_, rfl⟩
      obtain ⟨qt, hqt⟩ : ∃ qt, q.ty = qt := ⟨_, rfl⟩
      rw [hqn] at y0 q5 hql
      rw [hqt] at y1 q5
      have KSm := hide (small_k qn w10 (by omega))
      have HQ5 := hide q5
      clear h1024 h512 q1 q2 hrq q5 hqn hqt y2
      go_wp2_with fail
      refine (unhide KSm).mono ?_
      rintro e w11 ⟨rfl, hb11⟩
      clear m0 m1 m2 m3 m4 m5 n0 n1 n2 n3 n4 n5 lm la
      have y1' := (hb11.cell (p := ⟨b, o + 1, none⟩) hb).trans y1
      have hMb11 := (hb11.block PM (blk_lt (unhide HMb10))).trans (unhide HMb10)
      have hAb11 := (hb11.block PA (blk_lt (unhide HAb10))).trans (unhide HAb10)
      obtain ⟨⟨m0, m1, m2, m3, m4, m5⟩, _⟩ := cells6 hMb11
      obtain ⟨⟨n0, n1, n2, n3, n4, n5⟩, _⟩ := cells6 hAb11
      have lm := blk_lt hMb11
      have la := blk_lt hAb11
      have hb' : b < w11.heap.size := Nat.lt_of_lt_of_le hb hb11.size
      rw [hml] at m2
      obtain ⟨sn, hsn⟩ : ∃ sn, smallP qn = sn := ⟨_, rfl⟩
      rw [hsn] at HQ5 ⊢
      have K4 := hide (having_k A.a sn qt b2 d2 _ w11 ((unhide HRa10).below hb11) (by omega))
      have K5 := hide (having_k z sn qt az cz _ w11 ((unhide HRz10).below hb11) (by omega))
      rw [unhide HQ5] at K4
      have HB11 := hide ((unhide HB10).trans (hb11.mono (unhide HB10).size))
      obtain ⟨hv, hhv⟩ : ∃ hv, havP z sn qt = hv := ⟨_, rfl⟩
      rw [hhv] at K4 K5
      clear y0 y1 KSm hMb11 hAb11 HMb10 HAb10 hsn hhv HQ5 hb11
      go_wp2_with fail
      refine (unhide K4).mono ?_
      rintro e w12 ⟨rfl, rfl⟩
      go_wp2_with fail
      refine (unhide K5).mono ?_
      rintro e w13 ⟨rfl, rfl⟩
      go_wp2_with fail
      go_ret
      exact ⟨rfl, unhide HB11⟩
  · rw [q1] at h1024
    have hand1 : bits .and .i64 ((f : Nat) : Int) 1024 = 0 := h1024
    have e1 : A.a.length = 0 := by rw [q2]; rfl
    have e2 : A.u.length = 0 := by rw [q3]; rfl
    have e3 : np = 0 := by rw [← unhide HNp, q4]; rfl
    subst e3
    rw [e1] at n3
    rw [e2] at n4
    clear h1024 h512
    go_wp2_with fail
    go_ret
    exact ⟨rfl, unhide HB10⟩

end Go.Proofs.YtdhobdmhnocbgabGreat
