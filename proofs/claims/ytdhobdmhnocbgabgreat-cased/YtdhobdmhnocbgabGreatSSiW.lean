/-
  Plain: an answer's first bytes; that there is one.
-/
/-
  Walks: Respond.
-/
/-
  Walks: the zone's Respond; Silent.
-/
import Derived.Test.YtdhobdmhnocbgabGreatSAnN
import Derived.Test.YtdhobdmhnocbgabGreatSDntE
namespace Go.Proofs.YtdhobdmhnocbgabGreat
open Go.RowKit Zr

/-- What is written goes on from what was. -/
def Goes (a b : St) : Prop := ∃ t, b.1 = a.1 ++ t
theorem Goes.refl (a : St) : Goes a a := ⟨⟨#[]⟩, ByteArray.ext (by rw [ByteArray.data_append]; simp)⟩
theorem Goes.trans {a b c : St} (h : Goes a b) (k : Goes b c) : Goes a c := by
  obtain ⟨t, h⟩ := h
  obtain ⟨u, k⟩ := k
  exact ⟨t ++ u, by rw [k, h, ByteArray.append_assoc]⟩
theorem goes_name (st : St) (s : ByteArray) : Goes st (wname st s) := ⟨_, rfl⟩
theorem goes_put (st : St) (s : ByteArray) : Goes st (wput st s) := ⟨_, rfl⟩
theorem goes_q (st : St) (q : Qs) : Goes st (stepQ st q) := by
  unfold stepQ
  split
  · exact Goes.refl _
  · exact ((goes_name st _).trans (goes_put _ _)).trans (goes_put _ _)
theorem goes_r (st : St) (x : Rc) : Goes st (stepR st x) := by
  unfold stepR
  split
  · exact Goes.refl _
  · have h1 : Goes st (whead st x) := ((((goes_name st _).trans (goes_put _ _)).trans (goes_put _ _)).trans (goes_put _ _)).trans (goes_put _ _)
    exact h1.trans ⟨_, ByteArray.append_assoc⟩
theorem goes_qs (l : List Qs) : ∀ st, Goes st (l.foldl stepQ st) := by
  induction l with
  | nil => exact fun st => Goes.refl st
  | cons q l ih => exact fun st => (goes_q st q).trans (ih _)
theorem goes_rs (l : List Rc) : ∀ st, Goes st (l.foldl stepR st) := by
  induction l with
  | nil => exact fun st => Goes.refl st
  | cons q l ih => exact fun st => (goes_r st q).trans (ih _)
theorem goes_all (m : Msg) : Goes (wtop m) (writ m) := (((goes_qs _ _).trans (goes_rs _ _)).trans (goes_rs _ _)).trans (goes_rs _ _)

theorem top_size (m : Msg) : (wtop m).1.size = 12 := by
  show (wd _ ++ wd _ ++ wd _ ++ wd _ ++ wd _ ++ wd _).size = 12
  simp only [ByteArray.size_append, wd_size]
theorem writ_front (m : Msg) : 12 ≤ (writ m).1.size ∧ ∀ i, i < 12 → bt (writ m).1 i = bt (wtop m).1 i := by
  obtain ⟨t, ht⟩ := goes_all m
  have h12 := top_size m
  rw [ht]
  refine ⟨by rw [ByteArray.size_append]; omega, fun i hi => ?_⟩
  rw [bt_append, if_pos (by omega)]
theorem top_bytes (m : Msg) (h1 : m.id < 65536) (h2 : m.flags < 65536) : bt (wtop m).1 0 = m.id / 256 ∧ bt (wtop m).1 1 = m.id % 256 ∧ bt (wtop m).1 2 = m.flags / 256 := by
  have e : (wtop m).1 = wd m.id ++ (wd m.flags ++ (wd m.q.length ++ wd m.a.length ++ wd m.u.length ++ wd m.x.length)) := by
    show wd m.id ++ wd m.flags ++ wd m.q.length ++ wd m.a.length ++ wd m.u.length ++ wd m.x.length = _
    simp only [ByteArray.append_assoc]
  rw [e]
  refine ⟨?_, ?_, ?_⟩
  · rw [bt_append, if_pos (by rw [wd_size]; omega)]; exact wd_0 _ h1
  · rw [bt_append, if_pos (by rw [wd_size]; omega)]; exact wd_1 _
  · rw [bt_append, if_neg (by rw [wd_size]; omega), wd_size, bt_append, if_pos (by rw [wd_size]; omega)]; exact wd_0 _ h2

/-- A reply whose parts are as they should be. -/
def RepOk (x : Rep) : Prop := x.id < 65536 ∧ 32768 ≤ x.fl ∧ x.fl < 65536 ∧ x.told ≤ 16 ∧ quesOk x.q ∧ x.q.length ≤ 1

theorem opts_ok (x : Rep) (h : x.told ≤ 16) : partOk (optsP x) 2 := by
  unfold optsP
  split
  · refine ⟨by simp, fun i hi => ?_⟩
    have e : i = 0 := by simpa using hi
    subst e
    refine ⟨⟨rfl, by unfold wordOk optR; simp, by unfold wordOk optR; simp, ⟨by show (0 : Int) ≤ ((x.told / 16 * 16777216 : Nat) : Int); omega, by show ((x.told / 16 * 16777216 : Nat) : Int) ≤ 4294967295; omega⟩, ?_⟩, fun k => ?_⟩
    · show wellD 41 ⟨#[]⟩
      exact ⟨by decide, by kernel_rfl⟩
    · obtain ⟨_, k⟩ := k
      rcases k with ⟨y, hy, _⟩ | k | k
      · simp at hy
      · exact k rfl
      · exact k rfl
  · exact ⟨by simp, fun i hi => absurd hi (by simp)⟩
theorem opts_len (x : Rep) : whlR (optsP x) ≤ 11 := by
  unfold optsP
  split
  · show 0 + 1 + 10 + 0 ≤ 11
    omega
  · decide

theorem flag_ge (L : List ST) (c f : Nat) (h : 32768 ≤ f) : ∀ j, 32768 ≤ flagTo L c f j
  | 0 => h
  | j + 1 => by
    have ih := flag_ge L c f h j
    rcases Nat.lt_or_ge j L.length with k | k
    · rw [cut_step L c f j k]
      split
      · exact Nat.le_trans ih Nat.left_le_or
      · exact ih
    · have : flagTo L c f (j + 1) = flagTo L c f j := by
        conv => lhs; unfold flagTo
        rw [List.getElem?_eq_none k]
      rw [this]
      exact ih
theorem rep_flags (x : Rep) (c : Nat) (h : RepOk x) : 32768 ≤ flagTo x.sets c (x.fl ||| x.told % 16) x.sets.length ∧ flagTo x.sets c (x.fl ||| x.told % 16) x.sets.length < 65536 := by
  obtain ⟨h1, h2, h3, h4, h5, h6⟩ := h
  exact ⟨flag_ge _ _ _ (Nat.le_trans h2 Nat.left_le_or) _, cut_lt _ _ _ (Nat.or_lt_two_pow (n := 16) h3 (by omega)) _⟩

/-- With no set at all an answer can be written. -/
theorem rep_none (x : Rep) (h : RepOk x) : msgOk (repMsg x 0) ∧ (writ (repMsg x 0).nat).1.size ≤ 65535 := by
  obtain ⟨f1, f2⟩ := rep_flags x 0 h
  obtain ⟨h1, h2, h3, h4, h5, h6⟩ := h
  have e : repMsg x 0 = ⟨x.id, (flagTo x.sets 0 (x.fl ||| x.told % 16) x.sets.length : Nat), x.q, [], [], optsP x⟩ := by
    unfold repMsg
    simp [partP]
  have hp : ∀ p, partOk [] p := fun p => ⟨by simp, fun i hi => absurd hi (by simp)⟩
  have hok : msgOk (repMsg x 0) := by
    rw [e]
    exact ⟨⟨by show (0 : Int) ≤ (x.id : Int); omega, by show (x.id : Int) ≤ 65535; omega⟩, ⟨by simp only; omega, by simp only; omega⟩, h5, hp 0, hp 1, opts_ok x h4⟩
  refine ⟨hok, Nat.le_trans (writ_le _ hok) ?_⟩
  rw [e]
  show whlQ x.q + whlR [] + whlR [] + whlR (optsP x) ≤ 65535
  have ho := opts_len x
  have hr : whlR [] = 0 := rfl
  have hq : whlQ x.q ≤ 300 := by
    match hx : x.q with
    | [] => show 12 ≤ 300; omega
    | [q] =>
      have := h5.2 0 (by rw [hx]; simp)
      have hs : q.name.size ≤ 255 := by
        have := this.1
        simp only [hx, List.getElem_cons_zero] at this
        exact (whole_pos this).2
      show 12 + q.name.size + 4 ≤ 300
      omega
    | a :: b :: l => rw [hx] at h6; simp at h6
  omega

theorem take_ok (id fl : Nat) (m : MI) (l : List Ev) (stream : Bool) (hid : id < 65536) (hf1 : 32768 ≤ fl) (hf2 : fl < 65536) (hm : msgOk m) : RepOk (takeP id fl m l stream) := by
  have hr : ∀ f li q, refusalP f li q ≤ 16 := fun f li q => by unfold refusalP; split <;> (try split) <;> (try split) <;> omega
  have ht : ∀ z n, toldP z n ≤ 16 := fun z n => by unfold toldP; split <;> omega
  have ho : fl ||| 1024 < 65536 := Nat.or_lt_two_pow (n := 16) hf2 (by decide)
  have ho2 : 32768 ≤ fl ||| 1024 := Nat.le_trans hf1 Nat.left_le_or
  have h0 : quesOk [] := ⟨by simp, fun i hi => absurd hi (by simp)⟩
  have hq := hm.2.2.1
  unfold takeP
  split
  · next q he =>
    rw [he] at hq
    split
    · exact ⟨hid, ho2, ho, ht _ _, hq, by simp⟩
    · exact ⟨hid, hf1, hf2, hr _ _ _, hq, by simp⟩
  · exact ⟨hid, hf1, hf2, by simp only; omega, h0, by simp⟩

theorem kept_bounds (f : Nat) : 32768 ≤ 32768 ||| (f &&& 30976) ∧ 32768 ||| (f &&& 30976) < 65536 :=
  ⟨Nat.left_le_or, Nat.or_lt_two_pow (n := 16) (by decide) (Nat.lt_of_le_of_lt Nat.and_le_right (by decide))⟩

theorem rep_ok (l : List Ev) (b : ByteArray) (stream : Bool) : RepOk (repP l b stream) := by
  obtain ⟨k1, k2⟩ := kept_bounds (num b 2 2)
  have hid := num_lt2 b 0
  unfold repP
  split
  · exact ⟨hid, k1, k2, by simp only; omega, ⟨by simp, fun i hi => absurd hi (by simp)⟩, by simp⟩
  · next m he => exact take_ok _ _ _ _ _ hid k1 k2 (parse_well b m he)

end Go.Proofs.YtdhobdmhnocbgabGreat

namespace Go.Proofs.YtdhobdmhnocbgabGreat
open Go.RowKit Zr

theorem num2_is (b : ByteArray) (i : Nat) : num b i 2 = 256 * bt b i + bt b (i + 1) := by simp only [num]; rw [Nat.add_zero]; omega

/-- A message that came out of Parse: its value, its rows. -/
theorem msgIs_rows {w : World} {N : Nat} {v : Value} {m : Msg} (h : MsgIs w N v m) : ∃ a1 c1 a2 c2 a3 c3 a4 c4,
    v = .agg #[.int .i64 m.int.id, .int .i64 m.int.flags, .slice a1 m.int.q.length c1, .slice a2 m.int.a.length c2, .slice a3 m.int.u.length c3, .slice a4 m.int.x.length c4] ∧ QueRow w a1 m.int.q ∧ m.int.q.length ≤ c1 ∧ RecRow w a4 m.int.x := by
  obtain ⟨a1, c1, a2, c2, a3, c3, a4, c4, rfl, o1, o2, o3, o4, _⟩ := h
  rw [qcells_int] at o1
  rw [rcells_int] at o4
  have e1 : m.int.q.length = m.q.length := by simp [Msg.int]
  have e2 : m.int.a.length = m.a.length := by simp [Msg.int]
  have e3 : m.int.u.length = m.u.length := by simp [Msg.int]
  have e4 : m.int.x.length = m.x.length := by simp [Msg.int]
  rw [← e1] at o1
  rw [← e4] at o4
  refine ⟨a1, c1, a2, c2, a3, c3, a4, c4, by rw [e1, e2, e3, e4]; rfl, ?_, ?_, (owns_recRow o4).1⟩
  · intro hl
    rcases o1.2 with ⟨_, h2⟩ | ⟨g, cap, cur, h1, _, h3, h4, _, h6, h7⟩
    · exact absurd (List.length_eq_zero_iff.1 h2) hl
    · cases h1
      refine ⟨g, 0, cur, rfl, h3, fun j u hu => ?_⟩
      have hu' : (qcI (m.q.map Qs.int))[j]? = some u := hu
      rw [← h7] at hu'
      have hj : j < m.int.q.length * 3 := by
        have := (List.getElem?_eq_some_iff.1 hu').1
        rw [List.length_take] at this
        omega
      rw [List.getElem?_take_of_lt hj] at hu'
      rw [Nat.zero_add, ← hu']
      simp
  · rcases o1.2 with ⟨_, h2⟩ | ⟨g, cap, cur, h1, _, h3, h4, _⟩
    · omega
    · cases h1
      exact h4

/-- What Respond leaves. -/
def RespOut (w : World) (l : List Ev) (b : ByteArray) (stream : Bool) (e : Ending) (w' : World) : Prop := ∃ s, e = .returned (.string s) ∧ RespIs l b stream s ∧ Below w.heap.size w w'

set_option maxRecDepth 100000 in
set_option maxHeartbeats 4000000 in
theorem respond_m (l : List Ev) (al : Option Addr) (cl N : Nat) (b : ByteArray) (stream : Bool) (w : World) (hE : RowAt w N al (evC l)) (hN : N ≤ w.heap.size) (hl : l.length ≤ 1048576) (hz : EvSized l) (hb : b.size ≤ maxLen) :
    Calls Tryz.prog 44 #[.slice al l.length cl, .string b, .bool stream] w fun e w' => RespOut w l b stream e w' := by
  have hb' : b.size ≤ 9223372036854775807 := by unfold maxLen at hb; omega
  by_cases c1 : b.size < 12
  · have HR : Hid (RespIs l b stream ⟨#[]⟩) := .inl ⟨.inl c1, rfl⟩
    go_enter Tryz.func44, Tryz.ntmps44
    go_wp2_with fail
    go_ret
    exact ⟨_, rfl, unhide HR, Below.refl _ _⟩
  · by_cases c2 : 65535 < b.size
    · have HR : Hid (RespIs l b stream ⟨#[]⟩) := .inl ⟨.inr (.inl c2), rfl⟩
      go_enter Tryz.func44, Tryz.ntmps44
      go_wp2_with fail
      go_ret
      exact ⟨_, rfl, unhide HR, Below.refl _ _⟩
    · have g0 := bt_get b 0 (by omega)
      have g1 := bt_get b 1 (by omega)
      have g2 := bt_get b 2 (by omega)
      have g3 := bt_get b 3 (by omega)
      have l0 := bt_lt b 0
      have l1 := bt_lt b 1
      have l2 := bt_lt b 2
      have l3 := bt_lt b 3
      obtain ⟨f, hf⟩ : ∃ f, num b 2 2 = f := ⟨_, rfl⟩
      obtain ⟨id, hid⟩ : ∃ f, num b 0 2 = f := ⟨_, rfl⟩
      have hf2 : f = 256 * bt b 2 + bt b 3 := by rw [← hf]; exact num2_is b 2
      have hid2 : id = 256 * bt b 0 + bt b 1 := by rw [← hid]; exact num2_is b 0
      have hfI : (256 * (bt b 2 : Int) + (bt b 3 : Int)) = ((f : Nat) : Int) := by omega
      have hand : bits .and .i64 ((f : Nat) : Int) 32768 = ((f % 65536 / 32768 * 32768 : Nat) : Int) := by
        have h1 := i64_and_nat f 32768 (by omega) (by decide)
        have h2 : f &&& 32768 = f % 65536 / 32768 * 32768 := nat_midmask 16 15 f (by decide)
        rw [h2] at h1
        exact h1
      by_cases c3 : 128 ≤ bt b 2
      · have HR : Hid (RespIs l b stream ⟨#[]⟩) := .inl ⟨.inr (.inr c3), rfl⟩
        have hne : (((f % 65536 / 32768 * 32768 : Nat) : Int) != 0) = true := by rw [bne_iff_ne]; omega
        generalize f % 65536 / 32768 * 32768 = fa at *
        clear hf hid hf2 hid2
        go_enter Tryz.func44, Tryz.ntmps44
        go_wp2_with fail
        go_cut [7] (fun v w' => v = .int .i64 ((f : Nat) : Int) ∧ Hid (Below w.heap.size w w'))
        case first =>
          go_region
          all_goals go_wp2_with fail
          all_goals go_meet
          all_goals exact ⟨by first | rfl | rw [hfI], below_drew (Below.refl _ _)⟩
        case rest =>
          obtain ⟨rfl, HB0⟩ := hcut
          go_wp2_with fail
          go_ret
          exact ⟨_, rfl, unhide HR, unhide HB0⟩
      · have hne : (((f % 65536 / 32768 * 32768 : Nat) : Int) != 0) = false := by rw [bne_eq_false_iff_eq]; omega
        have hmute : ¬ Mute b := by
          rintro (h | h | h) <;> omega
        have hk := kept_bounds f
        obtain ⟨fl, hfl⟩ : ∃ fl, 32768 ||| (f &&& 30976) = fl := ⟨_, rfl⟩
        rw [hfl] at hk
        have hkept : bits .or .i64 32768 (bits .and .i64 ((f : Nat) : Int) 30976) = ((fl : Nat) : Int) := by
          have h1 := i64_and_nat f 30976 (by omega) (by decide)
          have h4 : bits .and .i64 ((f : Nat) : Int) 30976 = ((f &&& 30976 : Nat) : Int) := by simpa using h1
          rw [h4]
          have h5 := i64_or_nat 32768 (f &&& 30976) (by decide) (Nat.lt_of_le_of_lt Nat.and_le_right (by decide))
          rw [hfl] at h5
          simpa using h5
        have hidI : (256 * (bt b 0 : Int) + (bt b 1 : Int)) = ((id : Nat) : Int) := by omega
        have hidl : id < 65536 := by omega
        have HRep : Hid (∀ s, (∃ c e, Fitting (repP l b stream) c ∧ SerIs (repMsg (repP l b stream) c) s e) → RespIs l b stream s) := fun s h => .inr ⟨hmute, h⟩
        have HNo : Hid (∀ x, parseP b = .error x → repP l b stream = ⟨id, fl, 1, [], false, [], 0⟩) := fun x h => by
          unfold repP
          rw [h, hid, hf, hfl]
        have HYes : Hid (∀ m, parseP b = .ok m → repP l b stream = takeP id fl m.int l stream ∧ msgOk m.int) := fun m h => ⟨by
          unfold repP
          rw [h]
          simp only
          rw [hid, hf, hfl], parse_well b m h⟩
        have kp := fun (W : World) => wireParse_any b W hb
        have KP := hide kp
        have HE := hide hE
        generalize f % 65536 / 32768 * 32768 = fa at *
        clear hf hid hf2 hid2 hfl hmute kp hE
        go_enter Tryz.func44, Tryz.ntmps44
        go_wp2_with fail
        go_cut [7] (fun v w' => v = .int .i64 ((f : Nat) : Int) ∧ Hid (Below w.heap.size w w'))
        case first =>
          go_region
          all_goals go_wp2_with fail
          all_goals go_meet
          all_goals exact ⟨by first | rfl | rw [hfI], below_drew (Below.refl _ _)⟩
        case rest =>
          obtain ⟨rfl, HB0⟩ := hcut
          go_wp2_with fail
          obtain ⟨W0, hW0⟩ : ∃ W0, wc = W0 := ⟨_, rfl⟩
          go_cut [8] (fun v w' => v = .pointer (some ⟨W0.heap.size, 0, none⟩) ∧ Hid (Below W0.heap.size W0 w') ∧ Hid (w'.heap[W0.heap.size]? = some (.cells #[.int .i64 (id : Nat), .int .i64 (fl : Nat), .int .i64 0, .slice none 0 0, .bool false, .slice none 0 0, .int .i64 0] 92 (0, 0))))
          case first =>
            subst hW0
            go_region
            all_goals go_wp2_with fail
            all_goals go_meet
            all_goals exact ⟨rfl, below_drew ((Below.refl _ _).alloc (Nat.le_refl _) _), heap_alloc_new _ _⟩
          case rest =>
            obtain ⟨rfl, HB2, HX2⟩ := hcut
            rw [hW0] at HB0
            obtain ⟨X, hX0⟩ : ∃ X, W0.heap.size = X := ⟨_, rfl⟩
            have hsz0 := (unhide HB0).size
            have hBw := (unhide HB0).trans ((unhide HB2).mono (unhide HB0).size)
            rw [hX0] at HX2 hsz0
            have HBw := hide hBw
            clear hBw HB0 HB2 hW0
            rw [hX0]
            clear hX0
            have hlX := blk_lt (unhide HX2)
            have kpw := unhide KP wc
            cases hp : parseP b with
            | error x =>
              have hrep := unhide HNo x hp
              have hxn := parse_err b x hp
              rw [hp] at kpw
              have f1 : (x == 0) = false := beq_eq_false_iff_ne.2 hxn
              rw [hrep] at HRep
              have KPw := hide kpw
              clear kpw hrep hp hxn HNo HYes
              go_wp2_with fail
              refine (unhide KPw).mono ?_
              rintro e w2 ⟨v, rfl, hmi, hb2⟩
              obtain ⟨a1, c1, a2, c2, a3, c3, a4, c4, rfl, _⟩ := msgIs_rows hmi
              have hX3 := (hb2.block X hlX).trans (unhide HX2)
              have hB3 := (unhide HBw).trans (hb2.mono (unhide HBw).size)
              obtain ⟨⟨x0, x1, x2, x3, x4, x5, x6⟩, y0, y1, y2, y3, y4, y5, y6⟩ := an_cells7 hX3
              have hlX3 := blk_lt hX3
              generalize (msgOf (.error x)).int = m at *
              have hX4 := (Below.heap_alloc (w2.setCell ⟨X, 2, none⟩ (.int .i64 1)) (.cells #[.int .i64 m.id, .int .i64 m.flags, .slice a1 m.q.length c1, .slice a2 m.a.length c2, .slice a3 m.u.length c3, .slice a4 m.x.length c4] 27) X (by rw [size_set]; exact hlX3)).trans (blk_set hX3 2 (.int .i64 1))
              have hRp : Rp ((w2.setCell ⟨X, 2, none⟩ (.int .i64 1)).alloc (.cells #[.int .i64 m.id, .int .i64 m.flags, .slice a1 m.q.length c1, .slice a2 m.a.length c2, .slice a3 m.u.length c3, .slice a4 m.x.length c4] 27)) X ⟨id, fl, 1, [], false, [], 0⟩ := ⟨none, 0, none, 0, hX4, fun h => absurd rfl h, Nat.le_refl _, ques_nil, fun i hi => absurd hi (Nat.not_lt_zero i), sets_nil, Nat.zero_le _, hidl, hk.2, by show 1 ≤ 16; omega, Nat.zero_le _⟩
              have hB4 := (hB3.setCell (p := ⟨X, 2, none⟩) hsz0 (.int .i64 1)).alloc (by rw [size_set]; omega) (.cells #[.int .i64 m.id, .int .i64 m.flags, .slice a1 m.q.length c1, .slice a2 m.a.length c2, .slice a3 m.u.length c3, .slice a4 m.x.length c4] 27)
              have kb := bytes_m X _ _ hRp
              have KB := hide kb
              have HB4 := hide hB4
              clear hmi hb2 hX3 hB3 hX4 hRp hB4 kb
              simp only [errOf]
              go_wp2_with fail
              refine (unhide KB).mono ?_
              rintro e w5 ⟨s, rfl, hs, hb5⟩
              have HS := hide (unhide HRep s hs)
              have HB5 := hide ((unhide HB4).trans (hb5.mono (unhide HB4).size))
              clear hs hb5 KB
              go_wp2_with fail
              go_ret
              exact ⟨s, rfl, unhide HS, unhide HB5⟩
            | ok mm =>
              obtain ⟨hrep, hok⟩ := unhide HYes mm hp
              rw [hp] at kpw
              rw [hrep] at HRep
              have KPw := hide kpw
              have HOk := hide hok
              clear kpw hrep hp hok HNo HYes
              go_wp2_with fail
              refine (unhide KPw).mono ?_
              rintro e w2 ⟨v, rfl, hmi, hb2⟩
              have hmi' : MsgIs w2 wc.heap.size v mm := hmi
              obtain ⟨a1, c1, a2, c2, a3, c3, a4, c4, rfl, hq, hq2, hr⟩ := msgIs_rows hmi'
              have hX3 := (hb2.block X hlX).trans (unhide HX2)
              have hB3 := (unhide HBw).trans (hb2.mono (unhide HBw).size)
              have hlX3 := blk_lt hX3
              generalize mm.int = m at *
              have hbm : Below w2.heap.size w2 (w2.alloc (.cells #[.int .i64 m.id, .int .i64 m.flags, .slice a1 m.q.length c1, .slice a2 m.a.length c2, .slice a3 m.u.length c3, .slice a4 m.x.length c4] 27)) := (Below.refl _ _).alloc (Nat.le_refl _) _
              have hB4 := hB3.trans (hbm.mono hB3.size)
              have kt := take_m X w.heap.size id fl m a1 c1 a2 c2 a3 c3 a4 c4 l al cl stream _ ((hbm.block X hlX3).trans hX3) (((unhide HE).mono hN).below hB4) hsz0 hl hz (hq.below hbm) hq2 (hr.below hbm) (unhide HOk) hidl hk.2
              have hlX4 : X < (w2.alloc (.cells #[.int .i64 m.id, .int .i64 m.flags, .slice a1 m.q.length c1, .slice a2 m.a.length c2, .slice a3 m.u.length c3, .slice a4 m.x.length c4] 27)).heap.size := by simp; omega
              have KT := hide kt
              have HB4 := hide hB4
              clear hmi hmi' hb2 hX3 hB3 hbm hB4 kt hq hr
              simp only [errOf]
              go_wp2_with fail
              refine (unhide KT).mono ?_
              rintro e w5 ⟨rfl, hR5, hG5⟩
              have hB5 := (unhide HB4).trans (grown_low hG5 hsz0 hlX4)
              have kb := bytes_m X _ _ hR5
              have KB := hide kb
              have HB5 := hide hB5
              clear hR5 hG5 hB5 kb KT
              go_wp2_with fail
              refine (unhide KB).mono ?_
              rintro e w6 ⟨s, rfl, hs, hb6⟩
              have HS := hide (unhide HRep s hs)
              have HB6 := hide ((unhide HB5).trans (hb6.mono (unhide HB5).size))
              clear hs hb6 KB
              go_wp2_with fail
              go_ret
              exact ⟨s, rfl, unhide HS, unhide HB6⟩

end Go.Proofs.YtdhobdmhnocbgabGreat

namespace Go.Proofs.YtdhobdmhnocbgabGreat
open Go.RowKit Zr

set_option maxRecDepth 100000 in
set_option maxHeartbeats 1000000 in
theorem zoneRespond_m (l : List Ev) (al : Option Addr) (cl N : Nat) (b : ByteArray) (stream : Bool) (w : World) (hE : RowAt w N al (evC l)) (hN : N ≤ w.heap.size) (hl : l.length ≤ 1048576) (hz : EvSized l) (hb : b.size ≤ maxLen) :
    Calls Tryz.prog 33 #[.slice al l.length cl, .string b, .bool stream] w fun e w' => RespOut w l b stream e w' := by
  have kr := respond_m l al cl N b stream w hE hN hl hz hb
  have KR := hide kr
  clear kr
  go_enter Tryz.func33, Tryz.ntmps33
  go_wp2_with fail
  refine (unhide KR).mono ?_
  rintro e w1 ⟨s, rfl, hs, hb1⟩
  have HS := hide hs
  clear hs
  go_wp2_with fail
  go_ret
  exact ⟨s, rfl, unhide HS, hb1⟩

def askB : ByteArray := ⟨#[0, 7, 1, 0, 0, 1, 0, 0, 0, 0, 0, 0]⟩
def badB : ByteArray := ⟨#[0, 7, 129, 1, 0, 0, 0, 0, 0, 0, 0, 0]⟩
end Go.Proofs.YtdhobdmhnocbgabGreat
