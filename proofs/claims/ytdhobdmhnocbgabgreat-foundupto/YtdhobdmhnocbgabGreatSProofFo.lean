/-
  For every list of news, every list of numbers, every place, every number that says which letters are turned, and either way of sending, of bulk at most 1048576 together, the law Found returns true (a node whose newest news say that it is alive is found by its name in any letters: one answer, its address, and the question as it was asked), and both lists read behind the call as they read before.
-/
import Derived.Test.YtdhobdmhnocbgabGreatSOpnE
import Derived.Test.YtdhobdmhnocbgabGreatSFoW
import Derived.Carry
namespace Go.Proofs.YtdhobdmhnocbgabGreat
open Go.ChangeShapes Go.WideShapes Go.ChangeAt Go.RowKit Go.Deep Zr

theorem raw_addU (b o k : Nat) : (Addr.mk b o none).add k = ⟨b, o + k, none⟩ := by
  unfold Addr.add
  split
  · next h => subst h; rfl
  · rfl

theorem raw_ltU {w : World} {a : Addr} {v : Value} (h : w.cell? a = some v) : a.block < w.heap.size := by
  rcases Nat.lt_or_ge a.block w.heap.size with hb | hb
  · exact hb
  · simp [World.cell?, hb] at h

/-- The list that is handed in. -/
theorem open_rawU {H : Type} {enc : TypeId × Value → H} {W : World} {fuel : Nat} {a : Option Addr} {n c : Nat} {x : DataW H × List MemPlace} (h : DataW.trod enc Tryz.prog W 0 (fun _ => true) true fuel 23 [.slice a n c] = some x) : RawAt W W.heap.size a n ∧ n ≤ 9223372036854775807 := by
  rcases open_ints Tryz.underlying23 Tryz.underlying3 (by kernel_rfl) h with ⟨h0, _⟩ | ⟨ad, len, cap, zs, h0, _, hl, hm, hz, _, hcell, hwf⟩
  · simp only [List.cons.injEq, Value.slice.injEq, and_true] at h0
    obtain ⟨rfl, rfl, rfl⟩ := h0
    exact ⟨fun j hj => by omega, by omega⟩
  · simp only [List.cons.injEq, Value.slice.injEq, and_true] at h0
    obtain ⟨rfl, rfl, rfl⟩ := h0
    simp only [if_true] at hz
    refine ⟨fun j hj => ?_, by unfold maxLen at hm; omega⟩
    have e := hcell j (by omega)
    obtain ⟨b, o, spot⟩ := ad
    have hs : spot = none := by simpa [Addr.add] using World.cell?_spot (hcell 0 (by omega))
    subst hs
    rw [raw_addU] at e
    have hmem : zs.getD j 0 ∈ zs := by
      rw [List.getD_eq_getElem?_getD, List.getElem?_eq_getElem (by omega)]
      exact List.getElem_mem _
    have hb : -9223372036854775808 ≤ zs.getD j 0 ∧ zs.getD j 0 ≤ 9223372036854775807 := by
      have h1 := hwf _ hmem
      unfold Lit.wf at h1
      rw [Bool.and_eq_true] at h1
      exact ⟨of_decide_eq_true h1.1, of_decide_eq_true h1.2⟩
    exact ⟨b, o, zs.getD j 0, rfl, raw_ltU e, e, hb.1, by omega⟩

/-- It is no longer than its bulk. -/
theorem es_bulkU {H : Type} {enc : TypeId × Value → H} {W : World} {fuel : Nat} {a : Option Addr} {n c : Nat} {x : DataW H × List MemPlace} (h : DataW.trod enc Tryz.prog W 0 (fun _ => true) true fuel 22 [.slice a n c] = some x) : n ≤ Rows.uptoBulk x.1 := by
  rcases open_slice Tryz.underlying22 h with ⟨h0, _⟩ | ⟨ad, len, cap, m, k, D, Pl, hc, _, hl, _, hm, rfl, hel⟩
  · simp only [List.cons.injEq, Value.slice.injEq, and_true] at h0
    omega
  · simp only [List.cons.injEq, Value.slice.injEq, and_true] at hc
    obtain ⟨_, rfl, rfl⟩ := hc
    simp only [if_true] at hm
    subst hm
    have key := (bulk_allE D n fun i hi => by
      obtain ⟨cs, h1, h2⟩ := hel i (by omega)
      obtain ⟨q, _, h3⟩ := open_e h2
      have h4 : q.node.size + q.addr.size + q.text.size + q.alias.size + 1 ≤ Rows.uptoBulk (D i) := h3
      omega).1
    simp only [Rows.uptoBulk]
    omega

set_option maxRecDepth 100000 in
theorem found_lifted (os : Os) (started : os.Started) (H : Type) (enc : TypeId × Value → H) (F : Stop.Interp) :
    ReturnsInHanded {} Tryz.checked os 5 .any ((Rows.OpenSpec.upto Rows.foundSpec).pre6 enc Tryz.prog Tryz.f5 Rows.foundUptoRow.domain false) (((Rows.OpenSpec.upto Rows.foundSpec).at F).post enc Tryz.prog Tryz.f5 false true false false) := by
  refine returnsInHanded_of_cond (C := Tryz.checked) (s := Rows.OpenSpec.upto Rows.foundSpec) (k := Rows.uptoSmall) rfl Tryz.ownE started (by kernel_rfl) Tryz.func5
    (OpenSpec.witness (enc := enc) (C := Tryz.checked) (s := Rows.OpenSpec.upto Rows.foundSpec) (k := Rows.uptoSmall) rfl false ⟨#[], #[.slice none 0 0, .slice none 0 0, .int .i64 0, .int .i64 0, .bool false], []⟩ 8 (by kernel_rfl) (by kernel_rfl) (by kernel_rfl)
      (x := ([.nil, .nil, .lit (.int .i64 0), .lit (.int .i64 0), .lit (.bool false)], [], [])) (by kernel_rfl) rfl (by kernel_rfl)) ?_
  intro W base args ds gs before hval0 hW _ hk _
  have hval : ∀ (j : Nat) t v, Tryz.f5.params[j]? = some t → args[j]? = some v → Value.okWide Tryz.prog W .any base t v := hval0
  have hW' := hW
  obtain ⟨p, q, hA0, hV, rfl, hfz, hnd⟩ := hW
  have hA : DataW.TrodAll enc Tryz.prog W 0 (fun _ => true) true Tryz.f5.params.toList args.toList ds p := hA0
  rw [Tryz.params5] at hA hval
  obtain ⟨v0, vs0, d0, ds0, p0, q0, hargs, rfl, rfl, h0, r0⟩ := trodAll_cons hA
  obtain ⟨v1, vs1, d1, ds1, p1, q1, hargs1, rfl, rfl, h1, r1⟩ := trodAll_cons r0
  obtain ⟨v2, vs2, d2, ds2, p2, q2, hargs2, rfl, rfl, h2, r2⟩ := trodAll_cons r1
  obtain ⟨v3, vs3, d3, ds3, p3, q3, hargs3, rfl, rfl, h3, r3⟩ := trodAll_cons r2
  obtain ⟨v4, vs4, d4, ds4, p4, q4, hargs4, rfl, rfl, h4, r4⟩ := trodAll_cons r3
  obtain ⟨rfl, rfl, rfl⟩ := trodAll_nil r4
  subst hargs4
  subst hargs3
  subst hargs2
  subst hargs1
  obtain rfl : args = #[v0, v1, v2, v3, v4] := by cases args; simp_all
  obtain ⟨rfl, rfl⟩ := trodVars_none hV
  have h0k := h0
  have h1k := h1
  have h2k := h2
  have h3k := h3
  have h4k := h4
  obtain ⟨fuel0, hf0⟩ := h0
  obtain ⟨fuel1, hf1⟩ := h1
  obtain ⟨a0, n0, c0, rfl⟩ := okWide_slice Tryz.underlying22 (hval 0 22 v0 rfl rfl)
  obtain ⟨a1, n1, c1, rfl⟩ := okWide_slice Tryz.underlying23 (hval 1 23 v1 rfl rfl)
  obtain ⟨z2, rfl, rfl, rfl, hzw2⟩ := open_int Tryz.underlying3 (hval 2 3 v2 rfl rfl) h2
  have hz2 : -9223372036854775808 ≤ z2 ∧ z2 ≤ 9223372036854775807 := by
    unfold Lit.wf at hzw2
    rw [Bool.and_eq_true] at hzw2
    exact ⟨of_decide_eq_true hzw2.1, of_decide_eq_true hzw2.2⟩
  obtain ⟨z3, rfl, rfl, rfl, _⟩ := open_int Tryz.underlying3 (hval 3 3 v3 rfl rfl) h3
  obtain ⟨z4, rfl, rfl, rfl⟩ := open_bool Tryz.underlying4 (hval 4 4 v4 rfl rfl) h4
  clear hA0 hval0
  simp only [List.append_nil] at hW' hk
  have hlt : ∀ x ∈ p0 ++ p1, x.block < W.heap.size := fun x hx => by simpa using hW'.lt x (by simpa using hx)
  obtain ⟨hraw1, hrn1⟩ := open_rawU hf1
  have hbk : Rows.uptoBulkAll [d0, d1, .lit (.int .i64 z2), .lit (.int .i64 z3), .lit (.bool z4)] ≤ 1048576 := of_decide_eq_true hk
  simp only [Rows.uptoBulkAll] at hbk
  obtain ⟨a, l, c, e0, hcl, hrow, hlen, hsz⟩ := open_es hf0 (by simp only; omega)
  cases e0
  have hbl := es_bulkU hf0
  simp only at hbl
  have hl1 : l.length + 1 ≤ 1048576 := by simp only [Rows.uptoBulk] at hbk hbl; omega
  refine (found_k l a0 c0 a1 n1 c1 z2 z3 z4 W hrow hl1 (fun i hi => by have := hsz i hi; omega) hraw1 hrn1 hz2.1 (by omega)).mono fun e W' ⟨he, hw⟩ => ?_
  subst he
  have harg0 : DataW.Trod enc Tryz.prog W' 0 (fun b => decide (b < W.heap.size)) true 22 (.slice a0 l.length c0) d0 p0 :=
    Below.trod Tryz.laidOutE (by kernel_rfl) (of_decide_eq_true (by kernel_rfl)) h0k hw fun x hx => hlt x (by simp [hx])
  have harg1 : DataW.Trod enc Tryz.prog W' 0 (fun b => decide (b < W.heap.size)) true 23 (.slice a1 n1 c1) d1 p1 :=
    Below.trod Tryz.laidOutE (by kernel_rfl) (of_decide_eq_true (by kernel_rfl)) h1k hw fun x hx => hlt x (by simp [hx])
  have harg2 : DataW.Trod enc Tryz.prog W' 0 (fun b => decide (b < W.heap.size)) true 3 (.int .i64 z2) (.lit (.int .i64 z2)) [] :=
    Below.trod Tryz.laidOutE (by kernel_rfl) (of_decide_eq_true (by kernel_rfl)) h2k hw fun x hx => by simp at hx
  have harg3 : DataW.Trod enc Tryz.prog W' 0 (fun b => decide (b < W.heap.size)) true 3 (.int .i64 z3) (.lit (.int .i64 z3)) [] :=
    Below.trod Tryz.laidOutE (by kernel_rfl) (of_decide_eq_true (by kernel_rfl)) h3k hw fun x hx => by simp at hx
  have harg4 : DataW.Trod enc Tryz.prog W' 0 (fun b => decide (b < W.heap.size)) true 4 (.bool z4) (.lit (.bool z4)) [] :=
    Below.trod Tryz.laidOutE (by kernel_rfl) (of_decide_eq_true (by kernel_rfl)) h4k hw fun x hx => by simp at hx
  have hall : DataW.TrodAll enc Tryz.prog W' 0 (fun b => decide (b < W.heap.size)) true [22, 23, 3, 3, 4] [.slice a0 l.length c0, .slice a1 n1 c1, .int .i64 z2, .int .i64 z3, .bool z4] [d0, d1, .lit (.int .i64 z2), .lit (.int .i64 z3), .lit (.bool z4)] (p0 ++ (p1 ++ ([] ++ ([] ++ [])))) := ⟨p0, _, harg0, trodAll_mk4 harg1 harg2 harg3 harg4, rfl⟩
  try simp only [List.append_nil] at hall
  exact ⟨_, rfl, _, _, _, [], p0 ++ p1, [], hW', trodAll_mk1 (shut_bool Tryz.underlying4 true), hall, rfl, hw.frame _, fun h => by cases h⟩

theorem found_holds : Rows.FoundUptoSaid :=
  OpenClaim.holds_of_cond 5 Tryz.f5 rfl rfl rfl rfl rfl rfl rfl ⟨rfl, rfl, rfl, rfl, rfl⟩ rfl rfl rfl rfl rfl (by kernel_rfl) Tryz.func5 (by kernel_rfl)
    (of_decide_eq_true (by kernel_rfl)) (by unfold Func.isWrapper; first | (rw [if_pos (by decide +kernel)]; kernel_rfl) | (rw [if_neg (by decide +kernel)]; exact ⟨rfl, rfl⟩))
    (fun os started H enc _ F => found_lifted os started H enc F)

end Go.Proofs.YtdhobdmhnocbgabGreat
