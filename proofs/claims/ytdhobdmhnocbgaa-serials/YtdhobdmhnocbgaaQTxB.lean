/-
  Walks over the document's own answer: a name is written short.
-/
import Derived.Test.YtdhobdmhnocbgaaQTxA
namespace Go.Proofs.Ytdhobdmhnocbgaa
open Go.RowKit Zr

theorem Try.info3 : (Try.prog.info? 3).map (fun i => (i.zero, i.size, i.bytes)) = some (some (.int .i64 0), 1, 8) := by kernel_rfl

theorem cell_one_new' (w : World) (x : Value) (t : TypeId) (B : Nat) (hB : B = w.heap.size) : ∀ j u, [x][j]? = some u → (w.alloc (.cells #[x] t)).cell? ((⟨B, 0, none⟩ : Addr).add j) = some u := by
  subst hB
  exact World.news_of_block (cs := #[x]) (heap_alloc_new w _)

/-- A row of numbers of the call's own, as what is appended. -/
theorem src_heads {w : World} {N : Nat} {a : Option Addr} {c : Nat} {K : List (ByteArray × Nat)} (h : w.ownsRow N 3 1 (.slice a K.length c) K.length (hcells K)) : Src Try.prog 1 35 (.slice a K.length c) K.length (hcells K) w := by
  rcases h.2 with ⟨h1, h2⟩ | ⟨g, cap, cur, h1, h2⟩
  · have e : K = [] := List.eq_nil_of_length_eq_zero h2
    subst e
    cases h1
    exact Src.ofNil w Try.underlying35 0
  · cases h1
    exact Src.ofSlice w Try.underlying35 ⟨g, 0, none⟩ K.length c _ (hcells_len K) (h.cells (g := g) rfl) (fun u hu => by
      unfold hcells at hu
      obtain ⟨_, _, rfl⟩ := List.mem_map.1 hu
      rfl)

theorem root_ne {s : ByteArray} {k : Nat} (ht : Tl s k) : s.extract k s.size = ⟨#[0]⟩ ↔ s.size < k + 2 := by
  have hlt := ht.lt
  constructor
  · intro e
    have := congrArg ByteArray.size e
    rw [ByteArray.size_extract] at this
    have h1 : (⟨#[0]⟩ : ByteArray).size = 1 := rfl
    omega
  · intro c
    cases ht with
    | root _ h1 h2 =>
      have e2 := single_of s k (by omega) h2
      rw [h1] at e2
      exact e2
    | lab _ h1 h2 h3 => have := h3.lt; omega

theorem ext_ext (s : ByteArray) (k c d : Nat) (hk : k ≤ s.size) (hc : c ≤ d) (hd : k + d ≤ s.size) : (s.extract k s.size).extract c d = s.extract (k + c) (k + d) := by
  have h1 : (s.extract k s.size).size = s.size - k := by rw [ByteArray.size_extract]; omega
  have h2 : ((s.extract k s.size).extract c d).size = d - c := by rw [ByteArray.size_extract, h1]; omega
  have h3 : (s.extract (k + c) (k + d)).size = d - c := by rw [ByteArray.size_extract]; omega
  apply bt_ext
  · rw [h2, h3]
  · intro i hi
    rw [h2] at hi
    rw [bt_ex (s.extract k s.size) c d i hi (by omega), bt_ex s k s.size (c + i) (by omega) (Nat.le_refl _), bt_ex s (k + c) (k + d) i (by omega) hd]
    congr 1; omega

/-- An append onto another row of numbers, of the call's own. -/
theorem below_append {w0 w w' : World} {size : Nat} {o : Obj} {v : Value} {n : Nat} {xs : List Value} (hB : Below w0.heap.size w0 w) (hown : w.ownsRow w0.heap.size 3 size v n xs) (hg : (w.alloc o).grownBy w' v.ownBlock) : Below w0.heap.size w0 w' := by
  refine Below.grown (hB.trans (((Below.refl _ _).alloc (Nat.le_refl _) o).mono hB.size)) hg (by have := hB.size; simp; omega) (fun k hk => ?_)
  exact (hown.lt k hk).1

set_option maxRecDepth 100000 in
set_option maxHeartbeats 4000000 in
theorem short_t (N T : Nat) (B : ByteArray) (K : List (ByteArray × Nat)) (Q : Nat → Prop) (s : ByteArray) (w : World) (h : Tx w N T B K) (hK : K.length ≤ 300000) (hB : B.size ≤ 300000) (hI : Inv Q B K) (hs : wholeB s = true) :
    Calls Try.prog 46 #[.pointer (some ⟨T, 0, none⟩), .string s] w fun e w' => e = .returned (.tuple #[]) ∧ Tx w' N T (B ++ (short K s B.size).1) (K ++ (short K s B.size).2) ∧ TFrame N w w' := by
  obtain ⟨ht, h255⟩ := tl_ok hs
  have hlt := h.lt
  have H := hide h
  have HT := hide ht
  have hkt : Hid (∀ q, q ∈ K → q.2 ≤ 16383) := fun q hq => (hI q.1 q.2 hq).1
  have hlen0 := (short_len K s B.size)
  have key : Hid (∀ x W, Tx W N T B K → Calls Try.prog 88 #[.pointer (some ⟨T, 0, none⟩), .string x] W fun e w' => e = .returned (.int .i64 (foundI (findK K x))) ∧ Below W.heap.size W w') := fun x W hW => knownAt_any N T B K Q x W hW (by omega) (by omega) hI
  clear h ht hs hI
  obtain ⟨r, hr⟩ : ∃ r, short K s B.size = r := ⟨_, rfl⟩
  rw [hr] at hlen0 ⊢
  have HR : Hid (shF K s B.size (s.size + 1) 0 = r) := hr
  clear hr
  obtain ⟨i0, hi, hz0, hz1, hz2⟩ := info_parts Try.info3
  have Hi := hide hi
  have Hz0 := hide hz0
  have Hz1 := hide hz1
  have Hz2 := hide hz2
  clear hi hz0 hz1 hz2
  go_enter Try.func46, Try.ntmps46
  go_wp2_with fail
  go_loopg [1, 4, 5, 6] (2 * s.size + 4) (fun g nm sv tv hv w' => ∃ (k : Nat) (own : List (ByteArray × Nat)) (o : Option Nat) (a : Option Addr) (c : Nat), nm = .string (s.extract k s.size) ∧ sv = .string (s.extract 0 k) ∧ tv = .int .i64 (foundI o) ∧ hv = .slice a own.length c ∧
      k ≤ s.size ∧ own.length ≤ k ∧ Hid (Tl s k) ∧ Hid (w'.ownsRow w.heap.size 3 1 (.slice a own.length c) own.length (hcells own)) ∧ Hid (Below w.heap.size w w') ∧
      ((o = none ∧ 2 * s.size < 2 * k + g ∧ ∃ f, s.size < k + f ∧ Hid (r = (s.extract 0 k ++ (shF K s B.size f k).1, own ++ (shF K s B.size f k).2))) ∨ (∃ t, o = some t ∧ t ≤ 16383 ∧ Hid (r = (s.extract 0 k ++ wd (49152 + t), own)))))
  case atStart => exact ⟨0, [], none, none, 0, by rw [extract_all], by rw [extract_self], rfl, rfl, by omega, Nat.le_refl _, HT, World.ownsRow_nil _ _ _ _, Below.refl _ _, .inl ⟨rfl, by omega, s.size + 1, by omega, by rw [extract_self, empty_append, List.nil_append]; exact (unhide HR).symm⟩⟩
  case round =>
    obtain ⟨k, own, o, a, c, rfl, rfl, rfl, rfl, hks, hol, htk, hO, hBw, hcase⟩ := hrel
    have hX := hide ((unhide H).below (unhide hBw))
    have hek : (s.extract 0 k).size = k := by rw [ByteArray.size_extract]; omega
    rcases hcase with ⟨rfl, hg, f, hf, hres⟩ | ⟨t, rfl, ht, hres⟩
    · simp only [foundI]
      have hrn := root_ne (unhide htk)
      by_cases cr : s.size < k + 2
      · -- the end: the root
        have hre := hrn.2 cr
        have he : ((s.extract k s.size).toList == [0]) = true := by rw [root_eqb]; simp [hre]
        have he2 : ((s.extract k s.size).toList != [0]) = false := by rw [bne, he]; rfl
        have hr2 := unhide hres
        rw [shF_end K s B.size f k hf hks cr, hre, List.append_nil] at hr2
        have HR2 := hide hr2
        clear hr2 hres hre hrn HR
        generalize s.extract k s.size = rest at *
        have hone : (⟨#[0]⟩ : ByteArray).size = 1 := rfl
        have hsS : (s.extract 0 k ++ (⟨#[0]⟩ : ByteArray)).size ≤ 300 := by rw [ByteArray.size_append]; omega
        generalize s.extract 0 k = pre at *
        have hneg : ((-1 : Int) < 0) = True := by simp
        obtain ⟨ah, ch, hR, hNT, o1⟩ := unhide hX
        obtain ⟨c0, c1, z0, z1⟩ := tx_cells hR
        have hsR := blk_set hR 0 (.string (B ++ (pre ++ (⟨#[0]⟩ : ByteArray))))
        have OWN := hide (owns_set_kind o1 hR (by decide) 0 (.string (B ++ (pre ++ (⟨#[0]⟩ : ByteArray)))))
        have SRC := hide (src_heads (owns_set_kind (unhide hO) hR (by decide) 0 (.string (B ++ (pre ++ (⟨#[0]⟩ : ByteArray))))))
        have HSR := hide hsR
        have HRR := hide hR
        have hNw := (unhide hBw).size
        have hsz : (B ++ (pre ++ (⟨#[0]⟩ : ByteArray))).size ≤ 400000 := by rw [ByteArray.size_append]; omega
        clear hR hsR o1
        go_wp2_with (at_builtin; refine wpList_append_row _ rfl _ _ 35 35 rfl N 3 i0 (.int .i64 0) 1 8 Try.underlying35 (unhide Hi) (unhide Hz0) (unhide Hz1) (unhide Hz2) rfl (.slice ah K.length ch) K.length (hcells K) (by rfl) (unhide OWN) (.slice a own.length c) own.length (hcells own) (by rfl) (unhide SRC) (by unfold maxLen; omega) (by omega) (by rw [size_set]; omega) ?_; intro a1 e1 w1 hown1 hgrow1 hat1; have hR1 := blk_kind (unhide OWN) hgrow1 (unhide HSR) (by decide); have hfr := TFrame.of_append (unhide OWN) hgrow1 (.inl rfl); obtain ⟨d0, d1, y0, y1⟩ := tx_cells hR1; have HR1 := hide hR1; have HF := hide hfr; have HO1 := hide hown1; clear c0 c1 z0 z1 hR1 hfr hown1 hgrow1 hat1)
        go_end0
        rw [unhide HR2]
        refine ⟨rfl, ⟨a1, e1, ?_, hNT, ?_⟩, (((TFrame.of_below (unhide hBw)).trans (TFrame.of_grown (grown_set _ T 0 _) hNT (unhide HRR) (.inr rfl))).trans (unhide HF)).trans (TFrame.of_grown (grown_set _ T 1 _) hNT (unhide HR1) (.inr rfl))⟩
        · rw [List.length_append]
          exact (blk_set (unhide HR1) 1 _).trans rfl
        · rw [List.length_append, hcells_append]
          exact owns_set_kind (unhide HO1) (unhide HR1) (by decide) 1 _
      · -- a label: is the tail known?
        have hre : ¬ (s.extract k s.size = ⟨#[0]⟩) := fun e => cr (hrn.1 e)
        have he : ((s.extract k s.size).toList == [0]) = false := by rw [root_eqb]; simp [hre]
        have he2 : ((s.extract k s.size).toList != [0]) = true := by rw [bne, he]; rfl
        obtain ⟨t1, t2, t3, t4⟩ := tl_step (unhide htk) cr
        obtain ⟨f, rfl⟩ : ∃ g, f = g + 1 := ⟨f - 1, by omega⟩
        have hse : (s.extract k s.size).size = s.size - k := by rw [ByteArray.size_extract]; omega
        clear hre hrn
        cases hfd : findK K (s.extract k s.size) with
        | some t =>
          have hr2 := unhide hres
          rw [shF_some K s B.size f k t cr hfd] at hr2
          have hto := unhide hkt _ (findK_mem K _ t hfd)
          simp only [List.append_nil] at hto hr2
          have HFD := hide hfd
          have HR2 := hide hr2
          clear hr2 hres HR hfd
          go_wp2_with fail
          refine (unhide key _ _ (unhide hX)).mono ?_
          rw [unhide HFD]
          rintro e w1 ⟨rfl, hb1⟩
          have hX1 := hide ((unhide hX).below hb1)
          have hO1 := hide (owns_below (unhide hO) hb1)
          have hB1 := hide ((unhide hBw).trans (hb1.mono (unhide hBw).size))
          simp only [foundI]
          clear hX hO hBw hb1
          go_wp2_with fail
          go_roundg (gk - 1)
          case measure => omega
          case rel => exact ⟨k, own, some t, a, c, rfl, rfl, rfl, rfl, hks, hol, htk, hO1, hB1, .inr ⟨t, rfl, hto, HR2⟩⟩
        | none =>
          have hr2 := unhide hres
          rw [shF_none K s B.size f k cr hfd] at hr2
          have HFD := hide hfd
          have HR2 := hide hr2
          clear hr2 hres HR hfd
          have hg0 : (s.extract k s.size)[0]'(by omega) = s[k]'(by omega) := by simp [ByteArray.getElem_extract]
          have hg1 : ((s.extract k s.size)[0]'(by omega)).toNat = bt s k := by rw [hg0]; exact bt_get s k (by omega)
          have hx1 : (s.extract k s.size).extract 0 (1 + bt s k) = s.extract k (k + 1 + bt s k) := by
            rw [ext_ext s k 0 (1 + bt s k) (by omega) (by omega) (by omega), Nat.add_zero, Nat.add_assoc]
          have hx2 : (s.extract k s.size).extract (1 + bt s k) (s.size - k) = s.extract (k + 1 + bt s k) s.size := by
            rw [ext_ext s k (1 + bt s k) (s.size - k) (by omega) (by omega) (by omega), Nat.add_assoc, show k + (s.size - k) = s.size by omega]
          have hx3 : s.extract 0 k ++ s.extract k (k + 1 + bt s k) = s.extract 0 (k + 1 + bt s k) := extract_join s 0 k _ (by omega) (by omega) (by omega)
          have hz4 : ((s.extract k s.size).extract 0 (1 + bt s k)).size ≤ 255 := by rw [ByteArray.size_extract]; omega
          have HX1 := hide hx1
          have HX2 := hide hx2
          have HX3 := hide hx3
          clear hx1 hx2 hx3 hg0
          have hl1 : (learn1 (s.extract k s.size) (B.size + k)).length ≤ 1 := by unfold learn1; split <;> simp
          have HL1 := hide hl1
          have HLr : Hid (learn1 (s.extract k s.size) (B.size + k) = if B.size + k ≤ 16383 then [(s.extract k s.size, B.size + k)] else []) := rfl
          clear hl1
          generalize hL : learn1 (s.extract k s.size) (B.size + k) = L1 at HL1 HLr HR2
          clear hL
          go_wp2_with fail
          refine (unhide key _ _ (unhide hX)).mono ?_
          rw [unhide HFD]
          rintro e w1 ⟨rfl, hb1⟩
          have hX1 := hide ((unhide hX).below hb1)
          have hO1 := hide (owns_below (unhide hO) hb1)
          have hB1 := hide ((unhide hBw).trans (hb1.mono (unhide hBw).size))
          simp only [foundI]
          clear hX hO hBw hb1
          obtain ⟨ah, ch, hR, hNT, o1⟩ := unhide hX1
          obtain ⟨c0, c1, z0, z1⟩ := tx_cells hR
          clear hR o1
          have hsB := (unhide hB1).size
          by_cases cp : B.size + k ≤ 16383
          · have hLv := unhide HLr
            rw [if_pos cp] at hLv
            subst hLv
            go_wp2_with (at_builtin; refine wpList_append_row _ rfl _ _ 35 35 rfl w.heap.size 3 i0 (.int .i64 0) 1 8 Try.underlying35 (unhide Hi) (unhide Hz0) (unhide Hz1) (unhide Hz2) rfl (.slice a own.length c) own.length (hcells own) (by rfl) ((unhide hO1).alloc _) (.slice (some ⟨w1.heap.size, 0, none⟩) 1 1) 1 [.int .i64 ((B.size : Int) + k)] (by rfl) (Src.ofSlice _ Try.underlying35 ⟨w1.heap.size, 0, none⟩ 1 1 _ rfl (cell_one_new' _ _ _ _ rfl) (fun x hx => by simp at hx; rcases hx with rfl; rfl)) (by unfold maxLen; omega) (by omega) (by simp; omega) ?_; intro a2 e2 w2 hown2 hgrow2 hat2; have hB2 := hide (below_append (unhide hB1) (unhide hO1) hgrow2); have hO2 := hide hown2; clear hown2 hgrow2 hat2 c0 c1 z0 z1)
            rw [unhide HX1, unhide HX3, unhide HX2]
            go_roundg (gk - 2)
            case measure => omega
            case rel =>
              refine ⟨k + 1 + bt s k, own ++ [(s.extract k s.size, B.size + k)], none, a2, e2, rfl, rfl, rfl, by rw [List.length_append]; rfl, by omega, by rw [List.length_append]; show own.length + 1 ≤ _; omega, t4, ?_, hB2, .inl ⟨rfl, by omega, f, by omega, ?_⟩⟩
              · show World.ownsRow _ _ _ _ _ _ _
                rw [List.length_append, hcells_append]
                exact unhide hO2
              · show _ = _
                rw [unhide HR2, ← append_assoc', unhide HX3, List.append_assoc]
          · have hLv := unhide HLr
            rw [if_neg cp] at hLv
            subst hLv
            go_wp2_with fail
            rw [unhide HX1, unhide HX3, unhide HX2]
            go_roundg (gk - 2)
            case measure => omega
            case rel =>
              refine ⟨k + 1 + bt s k, own, none, a, c, rfl, rfl, rfl, rfl, by omega, by omega, t4, hO1, hB1, .inl ⟨rfl, by omega, f, by omega, ?_⟩⟩
              show _ = _
              rw [unhide HR2, ← append_assoc', unhide HX3, List.nil_append]
    · have hpos : ¬ ((t : Int) < 0) := by omega
      have hr2 := unhide hres
      have HR2 := hide hr2
      clear hr2 hres HR
      simp only [foundI]
      generalize s.extract k s.size = rest at *
      generalize s.extract 0 k = pre at *
      obtain ⟨z, hz⟩ : ∃ z, wd (49152 + t) = z := ⟨_, rfl⟩
      have hwz := wd_size (49152 + t)
      have Key2 : Hid (∀ w, Calls Try.prog 45 #[.int .i64 (49152 + (t : Int)), .int .i64 2] w fun e w' => e = .returned (.string z) ∧ Below w.heap.size w w') := fun w => by rw [← hz]; exact high2 _ _ w (by omega) (by omega)
      rw [hz] at hwz HR2
      clear hz
      have hsS : (pre ++ z).size ≤ 300 := by rw [ByteArray.size_append]; omega
      by_cases cr : (rest.toList == [0]) = true
      · have he2 : (rest.toList != [0]) = false := by rw [bne, cr]; rfl
        go_wp2_with fail
        refine (unhide Key2 _).mono ?_
        rintro e w1 ⟨rfl, hb1⟩
        have hX1 := hide ((unhide hX).below hb1)
        have hO1 := hide (owns_below (unhide hO) hb1)
        have hB1 := hide ((unhide hBw).trans (hb1.mono (unhide hBw).size))
        clear hX hO hBw hb1 Key2
        obtain ⟨ah, ch, hR, hNT, o1⟩ := unhide hX1
        obtain ⟨c0, c1, z0, z1⟩ := tx_cells hR
        have hsR := blk_set hR 0 (.string (B ++ (pre ++ z)))
        have OWN := hide (owns_set_kind o1 hR (by decide) 0 (.string (B ++ (pre ++ z))))
        have SRC := hide (src_heads (owns_set_kind (unhide hO1) hR (by decide) 0 (.string (B ++ (pre ++ z)))))
        have HSR := hide hsR
        have HRR := hide hR
        have hNw := (unhide hB1).size
        have hsz : (B ++ (pre ++ z)).size ≤ 400000 := by rw [ByteArray.size_append]; omega
        clear hR hsR o1
        go_wp2_with (at_builtin; refine wpList_append_row _ rfl _ _ 35 35 rfl N 3 i0 (.int .i64 0) 1 8 Try.underlying35 (unhide Hi) (unhide Hz0) (unhide Hz1) (unhide Hz2) rfl (.slice ah K.length ch) K.length (hcells K) (by rfl) (unhide OWN) (.slice a own.length c) own.length (hcells own) (by rfl) (unhide SRC) (by unfold maxLen; omega) (by omega) (by rw [size_set]; omega) ?_; intro a1 e1 w1 hown1 hgrow1 hat1; have hR1 := blk_kind (unhide OWN) hgrow1 (unhide HSR) (by decide); have hfr := TFrame.of_append (unhide OWN) hgrow1 (.inl rfl); obtain ⟨d0, d1, y0, y1⟩ := tx_cells hR1; have HR1 := hide hR1; have HF := hide hfr; have HO1 := hide hown1; clear c0 c1 z0 z1 hR1 hfr hown1 hgrow1 hat1)
        go_end0
        rw [unhide HR2]
        refine ⟨rfl, ⟨a1, e1, ?_, hNT, ?_⟩, (((TFrame.of_below (unhide hB1)).trans (TFrame.of_grown (grown_set _ T 0 _) hNT (unhide HRR) (.inr rfl))).trans (unhide HF)).trans (TFrame.of_grown (grown_set _ T 1 _) hNT (unhide HR1) (.inr rfl))⟩
        · rw [List.length_append]
          exact (blk_set (unhide HR1) 1 _).trans rfl
        · rw [List.length_append, hcells_append]
          exact owns_set_kind (unhide HO1) (unhide HR1) (by decide) 1 _
      · have he : (rest.toList == [0]) = false := by simpa using cr
        have he2 : (rest.toList != [0]) = true := by rw [bne, he]; rfl
        clear cr
        go_wp2_with fail
        refine (unhide Key2 _).mono ?_
        rintro e w1 ⟨rfl, hb1⟩
        have hX1 := hide ((unhide hX).below hb1)
        have hO1 := hide (owns_below (unhide hO) hb1)
        have hB1 := hide ((unhide hBw).trans (hb1.mono (unhide hBw).size))
        clear hX hO hBw hb1 Key2
        obtain ⟨ah, ch, hR, hNT, o1⟩ := unhide hX1
        obtain ⟨c0, c1, z0, z1⟩ := tx_cells hR
        have hsR := blk_set hR 0 (.string (B ++ (pre ++ z)))
        have OWN := hide (owns_set_kind o1 hR (by decide) 0 (.string (B ++ (pre ++ z))))
        have SRC := hide (src_heads (owns_set_kind (unhide hO1) hR (by decide) 0 (.string (B ++ (pre ++ z)))))
        have HSR := hide hsR
        have HRR := hide hR
        have hNw := (unhide hB1).size
        have hsz : (B ++ (pre ++ z)).size ≤ 400000 := by rw [ByteArray.size_append]; omega
        clear hR hsR o1
        go_wp2_with (at_builtin; refine wpList_append_row _ rfl _ _ 35 35 rfl N 3 i0 (.int .i64 0) 1 8 Try.underlying35 (unhide Hi) (unhide Hz0) (unhide Hz1) (unhide Hz2) rfl (.slice ah K.length ch) K.length (hcells K) (by rfl) (unhide OWN) (.slice a own.length c) own.length (hcells own) (by rfl) (unhide SRC) (by unfold maxLen; omega) (by omega) (by rw [size_set]; omega) ?_; intro a1 e1 w1 hown1 hgrow1 hat1; have hR1 := blk_kind (unhide OWN) hgrow1 (unhide HSR) (by decide); have hfr := TFrame.of_append (unhide OWN) hgrow1 (.inl rfl); obtain ⟨d0, d1, y0, y1⟩ := tx_cells hR1; have HR1 := hide hR1; have HF := hide hfr; have HO1 := hide hown1; clear c0 c1 z0 z1 hR1 hfr hown1 hgrow1 hat1)
        go_end0
        rw [unhide HR2]
        refine ⟨rfl, ⟨a1, e1, ?_, hNT, ?_⟩, (((TFrame.of_below (unhide hB1)).trans (TFrame.of_grown (grown_set _ T 0 _) hNT (unhide HRR) (.inr rfl))).trans (unhide HF)).trans (TFrame.of_grown (grown_set _ T 1 _) hNT (unhide HR1) (.inr rfl))⟩
        · rw [List.length_append]
          exact (blk_set (unhide HR1) 1 _).trans rfl
        · rw [List.length_append, hcells_append]
          exact owns_set_kind (unhide HO1) (unhide HR1) (by decide) 1 _

end Go.Proofs.Ytdhobdmhnocbgaa
