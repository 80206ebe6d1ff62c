/-
  Walks over the law: a push into no feed; which feed; do the lists still read as they were left; append, the old row kept.
-/
import Derived.Test.YtdhobdmhnocbgaaDoorSStG
import Derived.Test.YtdhobdmhnocbgaaDoorSOnkeep
import Derived.Test.YtdhobdmhnocbgaaDoorSMwH
namespace Go.Proofs.YtdhobdmhnocbgaaDoor
open Go.RowKit Zr

section
variable {P : Program} (w : World)

theorem run_append_row_blk (t tx ty e : TypeId) (i : TypeInfo) (z : Value) (ht : P.underlying t = some (.slice e)) (hi : P.info? e = some i) (hz : i.zero = some z)
    (base : Nat) (g n cap : Nat) (xs : List Value) (hown : w.ownsRow base e i.size (.slice (some ⟨g, 0, none⟩) n cap) n xs)
    (x : Value) (m : Nat) (news : List Value) (hs : Src P i.size tx x m news w)
    (h63 : n + m ≤ maxLen) (hbytes : (n + m) * i.bytes ≤ 140737488355328) {v' : Value} {w' : World}
    (hr : (Builtin.append_ #[t, tx] ty #[.slice (some ⟨g, 0, none⟩) n cap, x]).run P w = .ok v' w') :
    ∃ cs, w'.heap[g]? = some (.cells cs e (0, 0)) ∧ ∀ (j : Nat) (u : Value), xs[j]? = some u → cs[j]? = some u := by
  have hsmall : n + m ≤ 9223372036854775807 := by simp only [maxLen] at h63; omega
  have hlen : xs.length = n * i.size := hown.1
  rcases hown.2 with ⟨h0, _⟩ | ⟨g', cap', cur, h0, hbg, hg, hnc, hcm, hcs, htake⟩
  · cases h0
  · cases h0
    by_cases hroom : n + m ≤ cap
    · have hfit : n * i.size + news.length ≤ cur.size := by rw [hs.newsLen, hcs, ← Nat.add_mul]; exact Nat.mul_le_mul_right _ hroom
      have hr2 := run_append_room_row (P := P) w t tx ty e i ht hi g n cap cur hg x m news hs hroom hfit
      rw [hr2] at hr
      cases hr
      refine ⟨_, setRow_heap w g cur _ e _ hg, fun j u hu => ?_⟩
      have hj : j < n * i.size := by rw [← hlen]; exact (List.getElem?_eq_some_iff.1 hu).1
      rw [List.append_assoc, List.getElem?_toArray, htake, List.getElem?_append_left (by rw [hlen]; exact hj)]
      exact hu
    · have holds : ∀ j u, xs[j]? = some u → w.cell? ((⟨g, 0, none⟩ : Addr).add j) = some u := hown.cells (g := g) rfl
      have hold := run_firstCells_some (P := P) w.drew i.size n ⟨g, 0, none⟩ n cap xs hown.1 (by simpa using holds)
      have hr2 := run_append_grow_src (P := P) w t tx ty e i z ht hi hz (some ⟨g, 0, none⟩) n cap xs hold x m news hs (by omega) (by omega) (growslice_fits (by omega) hbytes)
      rw [hr2] at hr
      cases hr
      have h1 := heap_alloc_old w.drew (.cells ((xs ++ news).toArray ++ Builtin.zeroCells z.cells (grownCap w (n + m) cap e - (n + m))) e) (blk_lt hg)
      refine ⟨cur, h1.trans hg, fun j u hu => ?_⟩
      have hj : j < n * i.size := by rw [← hlen]; exact (List.getElem?_eq_some_iff.1 hu).1
      rw [← hu, ← htake, List.getElem?_take, if_pos hj]
      simp

/-- append onto a row of the call's own: the old row still reads as it did. -/
theorem wpList_append_keep {ops : Array Oper} {rest : List Oper} {o : Oper} {a : Act} {Q : Exit → Act → World → Prop} (hgd : o.guard = none) (s x : Operand) (t tx : TypeId)
    (ho : o.op = .call { callee := .builtin .append, args := #[s, x], argTypes := #[t, tx] })
    (base : Nat) (e : TypeId) (i : TypeInfo) (z : Value) (size bytes : Nat) (ht : P.underlying t = some (.slice e)) (hi : P.info? e = some i) (hz : i.zero = some z)
    (hsize : i.size = size) (hby : i.bytes = bytes) (hzs : z.cells.size = size)
    (v : Value) (n : Nat) (xs : List Value) (hs : a.eval s = v) (hown : w.ownsRow base e size v n xs)
    (y : Value) (m : Nat) (news : List Value) (hx : a.eval x = y) (hsrc : Src P size tx y m news w)
    (h63 : n + m ≤ maxLen) (hbytes : (n + m) * bytes ≤ 140737488355328) (hbase : base ≤ w.heap.size)
    (h : ∀ a' c' w', w'.ownsRow base e size (.slice a' (n + m) c') (n + m) (xs ++ news) → w.grownBy w' v.ownBlock → ((Value.slice a' (n + m) c').ownBlock = v.ownBlock ∨ (Value.slice a' (n + m) c').ownBlock = some w.heap.size) → (∀ g, v.ownBlock = some g → ∃ cs, w'.heap[g]? = some (.cells cs e (0, 0)) ∧ ∀ (j : Nat) (u : Value), xs[j]? = some u → cs[j]? = some u) → wpList P ops Q rest (a.put o.dst (.slice a' (n + m) c')) w') : wpList P ops Q (o :: rest) a w := by
  refine wpList_plain hgd fun K hK => ?_
  obtain ⟨v', w', hr, h2, h3, h4⟩ := run_append_row (P := P) w base t tx o.type e i z size bytes ht hi hz hsize hby hzs v n xs hown y m news hsrc h63 hbytes hbase
  subst hsize
  subst hby
  have h5 : ∀ g, v.ownBlock = some g → ∃ cs, w'.heap[g]? = some (.cells cs e (0, 0)) ∧ ∀ (j : Nat) (u : Value), xs[j]? = some u → cs[j]? = some u := fun g hg => by
    rcases hown.2 with ⟨q, _⟩ | ⟨g', cap, cur, q, _⟩
    · rw [q] at hg; simp [Value.ownBlock] at hg
    · subst q
      obtain rfl : g' = g := by simpa [Value.ownBlock] using hg
      exact run_append_row_blk w t tx o.type e i z ht hi hz base g' n cap xs hown y m news hsrc h63 hbytes hr
  unfold Oper.wp execOp
  simp only [ho, resolve, invoke, builtin, Sem.run_bind, Sem.run_pure, Result.andThen_ok, List.map_toArray, List.map_cons, List.map_nil, hs, hx, hr]
  obtain ⟨a', c', rfl⟩ : ∃ a' c', v' = .slice a' (n + m) c' := by
    rcases h2.2 with ⟨g1, g2⟩ | ⟨g, cap, cur, g1, g2⟩
    · exact ⟨none, 0, by rw [g1, g2]⟩
    · exact ⟨_, _, g1⟩
  exact hK _ _ (h a' c' w' h2 h3 h4 h5)

end

set_option maxHeartbeats 400000 in
theorem push_nil (s : ByteArray) (w : World) :
    Calls Tryd.prog 15 #[.pointer none, .string s] w fun r w' => r = .returned (.slice none 0 0) ∧ w' = w := by
  go_enter Tryd.func15, Tryd.ntmps15
  go_wp2_with fail
  go_ret
  exact ⟨rfl, rfl⟩

set_option maxHeartbeats 400000 in
theorem left_nilz (w : World) :
    Calls Tryd.prog 17 #[.pointer none] w fun r w' => r = .returned (.int .i64 0) ∧ w' = w := by
  go_enter Tryd.func17, Tryd.ntmps17
  go_wp2_with fail
  go_ret
  exact ⟨rfl, rfl⟩

set_option maxHeartbeats 400000 in
theorem nothing_any (s : ByteArray) (w : World) :
    Calls Tryd.prog 14 #[.string s] w fun r w' => r = .returned (.bool true) ∧ w' = w := by
  go_enter Tryd.func14, Tryd.ntmps14
  go_wp2_with fail
  refine (push_nil s _).mono ?_
  rintro r w1 ⟨rfl, rfl⟩
  go_wp2_with fail
  refine (left_nilz _).mono ?_
  rintro r w2 ⟨rfl, rfl⟩
  go_wp2_with fail
  go_ret
  exact ⟨rfl, rfl⟩

set_option maxHeartbeats 400000 in
theorem pick_l (c : Int) (w : World) (h1 : -9223372036854775808 ≤ c) (h2 : c < 9223372036854775808) :
    Calls Tryd.prog 13 #[.int .i64 c, .int .i64 3] w fun e w' => (∃ r : Nat, r < 3 ∧ e = .returned (.int .i64 r)) ∧ w' = w := by
  have key : ∀ d : Int, 0 ≤ d → ∃ r : Nat, r < 3 ∧ Int.tmod d 3 = r := fun d hd => by
    have a1 := Int.tmod_nonneg (3 : Int) hd
    have a2 := Int.tmod_lt_of_pos d (show (0 : Int) < 3 by omega)
    exact ⟨(Int.tmod d 3).toNat, by omega, by omega⟩
  by_cases hc : c < 0
  · obtain ⟨r, hr, er⟩ := key (-(c + 1)) (by omega)
    go_enter Tryd.func13, Tryd.ntmps13
    go_wp2_with fail
    go_ret
    exact ⟨⟨r, hr, rfl⟩, rfl⟩
  · obtain ⟨r, hr, er⟩ := key c (by omega)
    go_enter Tryd.func13, Tryd.ntmps13
    go_wp2_with fail
    go_ret
    exact ⟨⟨r, hr, rfl⟩, rfl⟩

/-- The list i of the first row and that of the second read alike. -/
def Alike (w : World) (o1 o2 : List Value) (i : Nat) : Prop :=
  ∃ (a : Option Addr) (c : Nat) (a2 : Option Addr) (c2 : Nat) (T : List ByteArray), o1[i]? = some (.slice a T.length c) ∧ o2[i]? = some (.slice a2 T.length c2) ∧ T.length ≤ 67108864 ∧ RowAt w w.heap.size a (stC T) ∧ RowAt w w.heap.size a2 (stC T)

theorem owns_in {w : World} {N : Nat} {e : TypeId} {a : Option Addr} {n c : Nat} {xs : List Value} (h : w.ownsRow N e 1 (.slice a n c) n xs) (i : Nat) (v : Value) (hv : xs[i]? = some v) : ∃ g, a = some ⟨g, 0, none⟩ ∧ w.cell? ⟨g, i, none⟩ = some v := by
  rcases h.2 with ⟨h1, h2⟩ | ⟨g, cap, cur, h1, _⟩
  · have hx : xs = [] := List.eq_nil_of_length_eq_zero (by rw [h.1, h2])
    subst hx
    simp at hv
  · cases h1
    exact ⟨g, rfl, owns_cell h i v hv⟩

set_option maxRecDepth 100000 in
set_option maxHeartbeats 1000000 in
theorem looks_any (B n M : Nat) (a3 a4 : Option Addr) (c3 c4 : Nat) (vx va vg : Value) (o1 o2 : List Value) (w : World)
    (hB : w.heap[B]? = some (.cells #[vx, va, vg, .slice a3 n c3, .slice a4 n c4] 42 (0, 0)))
    (h1 : w.ownsRow M 22 1 (.slice a3 n c3) n o1) (h2 : w.ownsRow M 22 1 (.slice a4 n c4) n o2) (hall : ∀ i, i < n → Alike w o1 o2 i) (hn : n ≤ 67108864) :
    Calls Tryd.prog 7 #[.pointer (some ⟨B, 0, none⟩)] w fun r w' => r = .returned (.bool true) ∧ ∃ m, w' = w.drewN m := by
  have e3 : w.cell? ⟨B, 3, none⟩ = some (.slice a3 n c3) := cell_of_blk hB 3
  have e4 : w.cell? ⟨B, 4, none⟩ = some (.slice a4 n c4) := cell_of_blk hB 4
  have HO1 := hide h1
  have HO2 := hide h2
  have HA := hide hall
  clear hB h1 h2 hall
  go_enter Tryd.func7, Tryd.ntmps7
  go_wp2_with fail
  have HE3 := hide e3
  have HE4 := hide e4
  clear e3 e4
  go_loopw [3] (fun i w' => ∃ j m : Nat, j ≤ n ∧ i = .int .i64 j ∧ Hid (w' = w.drewN m)) (fun i _ => n - (intOf i).toNat)
  case atStart => exact ⟨0, 0, Nat.zero_le _, rfl, hide rfl⟩
  case round =>
    obtain ⟨j, m, hj, rfl, HW⟩ := hrel
    have e3 : wr.cell? ⟨B, 3, none⟩ = some (.slice a3 n c3) := by rw [unhide HW]; exact unhide HE3
    by_cases cj : j < n
    · have e4 : wr.cell? ⟨B, 4, none⟩ = some (.slice a4 n c4) := by rw [unhide HW]; exact unhide HE4
      obtain ⟨a, c, a2, c2, T, q1, q2, q3, q4, q5⟩ := unhide HA j cj
      obtain ⟨g1, rfl, x1⟩ := owns_in (unhide HO1) j _ q1
      obtain ⟨g2, rfl, x2⟩ := owns_in (unhide HO2) j _ q2
      have y1 : wr.cell? ⟨g1, j, none⟩ = some (.slice a T.length c) := by rw [unhide HW]; exact x1
      have y2 : wr.cell? ⟨g2, j, none⟩ = some (.slice a2 T.length c2) := by rw [unhide HW]; exact x2
      have Key : Hid (∀ W : World, RowAt W w.heap.size a (stC T) → RowAt W w.heap.size a2 (stC T) → Calls Tryd.prog 18 #[.slice a T.length c, .slice a2 T.length c2] W fun e w' => e = .returned (.bool true) ∧ ∃ n, w' = W.drewN n) := hide fun W r1 r2 => sameTexts_true T a a2 c c2 _ _ W r1 r2 q3
      have Q4 : Hid (RowAt wr w.heap.size a (stC T)) := by rw [unhide HW]; exact hide q4
      have Q5 : Hid (RowAt wr w.heap.size a2 (stC T)) := by rw [unhide HW]; exact hide q5
      clear q1 q2 q3 q4 q5 x1 x2
      generalize T.length = tl at *
      go_wp2_with fail
      go_quiet (first | (go_at_call 18; exact Calls.quiet_of (unhide Key _ (by exact unhide Q4) (by exact unhide Q5))))
      go_wp2_with fail
      exact ⟨⟨j + 1, m + nq, by omega, by go_num, hide (by rw [unhide HW, World.drewN_drewN])⟩, by simp [intOf]; omega⟩
    · go_wp2_with fail
      go_ret
      exact ⟨rfl, m, unhide HW⟩

end Go.Proofs.YtdhobdmhnocbgaaDoor
