/-
  Walks over zonekeep: a message that is built.
-/
import Derived.Test.YtdhobdmhnocbgaaQBltA
import Derived.Test.YtdhobdmhnocbgaaQAnyB
import Derived.Deep.DeepCutAuto
namespace Go.Proofs.Ytdhobdmhnocbgaa
open Go.RowKit Zr

theorem owns_set6 {w : World} {N P : Nat} {e t : TypeId} {size : Nat} {v : Value} {n : Nat} {xs : List Value} (h : w.ownsRow N e size v n xs) {cs : Array Value} (hP : w.heap[P]? = some (.cells cs t (0, 0))) (hne : e ≠ t) (v0 v1 v2 v3 v4 v5 : Value) :
    ((((((w.setCell ⟨P, 0, none⟩ v0).setCell ⟨P, 1, none⟩ v1).setCell ⟨P, 2, none⟩ v2).setCell ⟨P, 3, none⟩ v3).setCell ⟨P, 4, none⟩ v4).setCell ⟨P, 5, none⟩ v5).ownsRow N e size v n xs :=
  have k0 := blk_set hP 0 v0
  have k1 := blk_set k0 1 v1
  have k2 := blk_set k1 2 v2
  have k3 := blk_set k2 3 v3
  have k4 := blk_set k3 4 v4
  owns_set_kind (owns_set_kind (owns_set_kind (owns_set_kind (owns_set_kind (owns_set_kind h hP hne 0 v0) k0 hne 1 v1) k1 hne 2 v2) k2 hne 3 v3) k3 hne 4 v4) k4 hne 5 v5

/-- What Built answers. -/
def BuiltOf (w : World) (N : Nat) (e : Ending) (w' : World) : Prop := ∃ (m : MI) (v : Value), msgOk m ∧ e = .returned v ∧ MsgAt w' w'.heap.size v m ∧ Below N w w'

theorem built_done {w0 w : World} {N : Nat} {id fl : Nat} {aq aa au ax : Option Addr} {nq cq na ca nu cu nx cx : Nat} {lq : List QI} {la lu lx : List RI} (hid : id < 65536) (hfl : fl < 65536)
    (rq : w.ownsRow N 74 3 (.slice aq nq cq) nq (qcI lq)) (ra : w.ownsRow N 86 5 (.slice aa na ca) na (rcI la)) (ru : w.ownsRow N 86 5 (.slice au nu cu) nu (rcI lu)) (rx : w.ownsRow N 86 5 (.slice ax nx cx) nx (rcI lx))
    (hq : ∀ x, x ∈ lq → queOk x) (hnq : nq ≤ 65535) (ha : Plain la) (hna : na ≤ 65535) (hu : Plain lu) (hnu : nu ≤ 65535) (hx : partOk lx 2) (hb : Below N w0 w) :
    BuiltOf w0 N (.returned (.agg #[.int .i64 id, .int .i64 fl, .slice aq nq cq, .slice aa na ca, .slice au nu cu, .slice ax nx cx])) w := by
  have eq := owns_lenQ rq
  have ea := owns_len ra
  have eu := owns_len ru
  have ex := owns_len rx
  have hok : msgOk ⟨id, fl, lq, la, lu, lx⟩ := by
    refine ⟨⟨?_, ?_⟩, ⟨?_, ?_⟩, ⟨by simp only; omega, fun i hi => hq _ (List.getElem_mem hi)⟩, part_plain ha (by omega) 0, part_plain hu (by omega) 1, hx⟩
    · show (0 : Int) ≤ (id : Int); omega
    · show (id : Int) ≤ 65535; omega
    · show (0 : Int) ≤ (fl : Int); omega
    · show (fl : Int) ≤ 65535; omega
  obtain ⟨z1, z2, z3, z4⟩ := msgOk_sized hok
  obtain ⟨r1, k1⟩ := own_row rq
  obtain ⟨r2, k2⟩ := own_row ra
  obtain ⟨r3, k3⟩ := own_row ru
  obtain ⟨r4, k4⟩ := own_row rx
  refine ⟨_, _, hok, rfl, ⟨aq, cq, aa, ca, au, cu, ax, cx, by rw [← eq, ← ea, ← eu, ← ex], r1, r2, r3, r4, z1, z2, z3, z4, ?_, ?_, ?_, ?_⟩, hb⟩
  · show lq.length ≤ cq; omega
  · show la.length ≤ ca; omega
  · show lu.length ≤ cu; omega
  · show lx.length ≤ cx; omega

set_option maxRecDepth 100000 in
set_option maxHeartbeats 8000000 in
theorem built_any (a : Option Addr) (n c : Nat) (w : World) (hraw : RawAt w w.heap.size a n) (hn : n ≤ 9223372036854775807) :
    Calls Try.prog 16 #[.slice a n c] w fun e w' => BuiltOf w w.heap.size e w' := by
  have A0 := bat_start (c := c) hraw hn
  clear hraw hn
  simp only [msgZ] at A0
  generalize hN : w.heap.size = N at *
  have keyN := fun (K : List ByteArray) W (h : Ro W N (N + 1) a n c K) (m : Nat) (v : Int) (h1 : 0 < m) (h2 : m ≤ 4294967296) (hv : v = m) => next_any N (N + 1) a n c K m v W h h1 (by omega) hv
  have keyM := fun (K : List ByteArray) W (h : Ro W N (N + 1) a n c K) (hK : K.length ≤ 1000) => rolls_name N (N + 1) a n c K W h hK
  have keyR := fun (K : List ByteArray) W (h : Ro W N (N + 1) a n c K) (hK : K.length ≤ 700) => rolls_records N (N + 1) a n c K W h hK
  have keyO := fun (K : List ByteArray) W (h : Ro W N (N + 1) a n c K) (hK : K.length ≤ 800) => opt_any N (N + 1) a n c K W h hK
  have KN := hide keyN
  have KM := hide keyM
  have KR := hide keyR
  have KO := hide keyO
  clear keyN keyM keyR keyO
  obtain ⟨i0, hi, hz0, hz1, hz2⟩ := info_parts Try.info86
  have Hi := hide hi
  have Hz0 := hide hz0
  have Hz1 := hide hz1
  have Hz2 := hide hz2
  clear hi hz0 hz1 hz2
  obtain ⟨j0, hi, hz0, hz1, hz2⟩ := info_parts Try.info74
  have Ji := hide hi
  have Jz0 := hide hz0
  have Jz1 := hide hz1
  have Jz2 := hide hz2
  clear hi hz0 hz1 hz2
  go_enter Try.func16, Try.ntmps16
  go_wp2_with fail
  generalize ((w.alloc (.cells #[.int .i64 0, .int .i64 0, .slice none 0 0, .slice none 0 0, .slice none 0 0, .slice none 0 0] 25)).alloc (.cells #[.slice a n c, .int .i64 0, .slice none 0 0] 57)).alloc (.cells #[.int .i64 0, .int .i64 0, .slice none 0 0, .slice none 0 0, .slice none 0 0, .slice none 0 0] 25) = w0 at *
  have HN := hide hN
  clear hN
  rw [show N + 1 + 1 = N + 2 from rfl]
  refine (unhide KN [] _ A0.ro 65536 65536 (by omega) (by omega) rfl).mono ?_
  rintro e w1 ⟨⟨id, hid, rfl⟩, hR1, hg1⟩
  have B1 := A0.call hR1 (A0.ro.next hg1)
  have A1 := B1.set 0 (.int .i64 (id : Nat))
  obtain ⟨⟨x0, x1, x2, x3, x4, x5⟩, y0, y1, y2, y3, y4, y5⟩ := cells6 B1.ma
  have l1 := blk_lt B1.ma
  clear hR1 hg1 B1 A0
  go_wp2_with fail
  generalize w1.setCell ⟨N + 2, 0, none⟩ (.int .i64 (id : Nat)) = w0' at *
  clear x0 x1 x2 x3 x4 x5 y0 y1 y2 y3 y4 y5 l1
  refine (unhide KN [] _ A1.ro 65536 65536 (by omega) (by omega) rfl).mono ?_
  rintro e w2 ⟨⟨fl, hfl, rfl⟩, hR1, hg1⟩
  have B1 := A1.call hR1 (A1.ro.next hg1)
  have A2 := B1.set 1 (.int .i64 (fl : Nat))
  obtain ⟨⟨x0, x1, x2, x3, x4, x5⟩, y0, y1, y2, y3, y4, y5⟩ := cells6 B1.ma
  have l1 := blk_lt B1.ma
  clear hR1 hg1 B1 A1
  go_wp2_with fail
  generalize w2.setCell ⟨N + 2, 1, none⟩ (.int .i64 (fl : Nat)) = w0'' at *
  clear x0 x1 x2 x3 x4 x5 y0 y1 y2 y3 y4 y5 l1
  refine (unhide KN [] _ A2.ro 400 400 (by omega) (by omega) rfl).mono ?_
  rintro e w3 ⟨⟨mo, hmo, rfl⟩, hR1, hg1⟩
  have A3 := A2.call hR1 (A2.ro.next hg1)
  clear hR1 hg1 A2
  go_wp2_with fail
  refine (unhide KN [] _ A3.ro 4 4 (by omega) (by omega) rfl).mono ?_
  rintro e w4 ⟨⟨nq, hnq, rfl⟩, hR1, hg1⟩
  have A4 := A3.call hR1 (A3.ro.next hg1)
  clear hR1 hg1 A3
  have A5 : BAt w N a n c [] #[.int .i64 (id : Nat), .int .i64 (fl : Nat), .slice none 0 0, .slice none 0 0, .slice none 0 0, .slice none 0 0] w4 := A4
  clear A4
  go_wp2_with fail
  go_loopg [7] (nq + 1) (fun g vi w' => ∃ (j : Nat) (lq : List QI) (aq : Option Addr) (cq : Nat) (K' : List ByteArray), vi = .int .i64 j ∧ j ≤ nq ∧ g = nq + 1 - j ∧ Hid (∀ x, x ∈ lq → queOk x) ∧ Hid (w'.ownsRow N 74 3 (.slice aq j cq) j (qcI lq)) ∧ Hid (BAt w N a n c K' #[.int .i64 (id : Nat), .int .i64 (fl : Nat), .slice aq j cq, .slice none 0 0, .slice none 0 0, .slice none 0 0] w') ∧ Hid (K'.length ≤ j))
  case atStart => exact ⟨0, [], none, 0, [], rfl, Nat.zero_le _, rfl, hide (fun x hx => by simp at hx), hide (World.ownsRow_nil _ _ _ _), hide A5, hide (Nat.le_refl _)⟩
  case round =>
    clear A5
    obtain ⟨j, lq, aq, cq, K1, rfl, hj, rfl, HQ, HO, HB, HK⟩ := hrel
    by_cases cj : j < nq
    · have S0 := qat_start (unhide HB) (unhide HO) #[.string ⟨#[]⟩, .int .i64 0, .int .i64 0]
      have hk1 : K1.length ≤ 1000 := by have := unhide HK; omega
      go_wp2_with fail
      generalize wr.alloc (.cells #[.string ⟨#[]⟩, .int .i64 0, .int .i64 0] 74) = w1 at *
      generalize wr.heap.size = Q at *
      refine (unhide KM K1 _ S0.b.ro hk1).mono ?_
      rintro e w2 ⟨s, hs, rfl, hR1, hf1⟩
      have HS := hide hs
      have B1 := S0.call hR1 hf1
      have S1 := B1.set 0 (.string s)
      obtain ⟨⟨x0, x1, x2⟩, y0, y1, y2⟩ := cells3 B1.q
      have l1 := blk_lt B1.q
      clear hR1 hf1 B1 S0 hs hk1
      go_wp2_with fail
      generalize w2.setCell ⟨Q, 0, none⟩ (.string s) = w3 at *
      clear x0 x1 x2 y0 y1 y2 l1
      have hK1 : Hid ((K1 ++ [s]).length ≤ j + 1) := by have := unhide HK; exact hide (by rw [List.length_append]; simp; omega)
      generalize K1 ++ [s] = K2 at *
      refine (unhide KN K2 _ S1.b.ro 65536 65536 (by omega) (by omega) rfl).mono ?_
      rintro e w4 ⟨⟨ty, hty, rfl⟩, hR1, hg1⟩
      have B1 := S1.call hR1 (S1.b.ro.next hg1)
      have S2 := B1.set 1 (.int .i64 (ty : Nat))
      obtain ⟨⟨x0, x1, x2⟩, y0, y1, y2⟩ := cells3 B1.q
      have l1 := blk_lt B1.q
      clear hR1 hg1 B1 S1
      go_wp2_with fail
      generalize w4.setCell ⟨Q, 1, none⟩ (.int .i64 (ty : Nat)) = w5 at *
      clear x0 x1 x2 y0 y1 y2 l1
      refine (unhide KN K2 _ S2.b.ro 65536 65536 (by omega) (by omega) rfl).mono ?_
      rintro e w6 ⟨⟨cl, hcl, rfl⟩, hR1, hg1⟩
      have B1 := S2.call hR1 (S2.b.ro.next hg1)
      have S3 := B1.set 2 (.int .i64 (cl : Nat))
      obtain ⟨⟨x0, x1, x2⟩, y0, y1, y2⟩ := cells3 B1.q
      have q3 : (w6.setCell ⟨Q, 2, none⟩ (.int .i64 (cl : Nat))).heap[Q]? = some (.cells #[.string s, .int .i64 (ty : Nat), .int .i64 (cl : Nat)] 74 (0, 0)) := S3.q
      obtain ⟨⟨u0, u1, u2⟩, v0, v1, v2⟩ := cells3 q3
      obtain ⟨⟨m0, m1, m2, m3, m4, m5⟩, _⟩ := cells6 S3.b.ma
      have l1 := blk_lt B1.q
      have l2 := blk_lt B1.b.ma
      clear hR1 hg1 B1 S2 q3
      have HS3 := hide S3
      clear S3
      go_wp2_with (at_builtin; refine wpList_append_row _ rfl _ _ 22 22 rfl N 74 j0 (.agg #[.string ⟨#[]⟩, .int .i64 0, .int .i64 0]) 3 32 Try.underlying22 (unhide Ji) (unhide Jz0) (unhide Jz1) (unhide Jz2) rfl (.slice aq j cq) j (qcI lq) (by rfl) ((unhide HS3).o.alloc _) (.slice (some ⟨w6.heap.size, 0, none⟩) 1 1) 1 [.string s, .int .i64 (ty : Nat), .int .i64 (cl : Nat)] (by rfl) (Src.ofSlice _ Try.underlying22 ⟨w6.heap.size, 0, none⟩ 1 1 _ rfl (cell_three_new _ _ _ _ _ _ (by simp)) (fun x hx => by simp at hx; rcases hx with rfl | rfl | rfl <;> rfl)) (by unfold maxLen; omega) (by omega) (by simp; omega) ?_; intro a1 e1 w7 hown2 hgrow2 hat2; have B7 := ((unhide HS3).b.alloc _).app ((unhide HS3).o.alloc _) (Nat.le_refl _) hgrow2 (by decide) (by decide) (by decide); obtain ⟨⟨n0, n1, n2, n3, n4, n5⟩, p0, p1, p2, p3, p4, p5⟩ := cells6 B7.ma; have l7 := blk_lt B7.ma)
      go_roundg (nq + 1 - (j + 1))
      case measure => omega
      case rel =>
        have B8 := B7.set 2 (.slice a1 (j + 1) e1)
        refine ⟨j + 1, lq ++ [⟨s, (ty : Nat), (cl : Nat)⟩], a1, e1, K2, by go_num, by omega, rfl, hide ?_, hide ?_, hide B8, hK1⟩
        · intro x hx
          rcases List.mem_append.1 hx with hx | hx
          · exact unhide HQ x hx
          · rw [List.mem_singleton] at hx
            subst hx
            refine ⟨unhide HS, ⟨?_, ?_⟩, ⟨?_, ?_⟩⟩
            · show (0 : Int) ≤ (ty : Int); omega
            · show (ty : Int) ≤ 65535; omega
            · show (0 : Int) ≤ (cl : Int); omega
            · show (cl : Int) ≤ 65535; omega
        · rw [qcI_push]
          exact owns_set_kind hown2 B7.ma (by decide) 2 _
    · have ej : j ≤ 3 := by omega
      have F0 : FAt w N a n c K1 id fl (.slice aq j cq) j lq (.slice none 0 0) 0 [] (.slice none 0 0) 0 [] (.slice none 0 0) 0 [] wr := ⟨unhide HB, unhide HO, World.ownsRow_nil _ _ _ _, World.ownsRow_nil _ _ _ _, World.ownsRow_nil _ _ _ _, fun g e => by simp [Value.ownBlock] at e, fun g e => by simp [Value.ownBlock] at e⟩
      have hk1 : K1.length ≤ 3 := by have := unhide HK; omega
      clear HO HB HK
      go_wp2_with fail
      refine (unhide KR K1 _ F0.b.ro (by omega)).mono ?_
      rintro e w1 ⟨la, aa, ca, K2, hPa, hla, rfl, hoa, hR1, hK2, hf1⟩
      have E1 := F0.call hR1 hf1
      have F1 := F0.newA E1 hoa
      obtain ⟨⟨x0, x1, x2, x3, x4, x5⟩, y0, y1, y2, y3, y4, y5⟩ := cells6 E1.b.ma
      have l1 := blk_lt E1.b.ma
      have HPa := hide hPa
      clear hR1 hf1 hoa E1 F0 hPa
      generalize la.length = na at *
      go_wp2_with fail
      generalize w1.setCell ⟨N + 2, 3, none⟩ (.slice aa na ca) = w2 at *
      clear x0 x1 x2 x3 x4 x5 y0 y1 y2 y3 y4 y5 l1
      refine (unhide KR K2 _ F1.b.ro (by omega)).mono ?_
      rintro e w3 ⟨lu, au, cu, K3, hPu, hlu, rfl, hou, hR1, hK3, hf1⟩
      have E1 := F1.call hR1 hf1
      have F2 := F1.newU E1 hou
      obtain ⟨⟨x0, x1, x2, x3, x4, x5⟩, y0, y1, y2, y3, y4, y5⟩ := cells6 E1.b.ma
      have l1 := blk_lt E1.b.ma
      have HPu := hide hPu
      clear hR1 hf1 hou E1 F1 hPu
      generalize lu.length = nu at *
      go_wp2_with fail
      generalize w3.setCell ⟨N + 2, 4, none⟩ (.slice au nu cu) = w4 at *
      clear x0 x1 x2 x3 x4 x5 y0 y1 y2 y3 y4 y5 l1
      refine (unhide KR K3 _ F2.b.ro (by omega)).mono ?_
      rintro e w5 ⟨lx, ax, cx, K4, hPx, hlx, rfl, hox, hR1, hK4, hf1⟩
      have E1 := F2.call hR1 hf1
      have F3 := F2.newX E1 hox
      obtain ⟨⟨x0, x1, x2, x3, x4, x5⟩, y0, y1, y2, y3, y4, y5⟩ := cells6 E1.b.ma
      have l1 := blk_lt E1.b.ma
      have HPx := hide hPx
      clear hR1 hf1 hox E1 F2 hPx
      generalize lx.length = nx at *
      go_wp2_with fail
      generalize w5.setCell ⟨N + 2, 5, none⟩ (.slice ax nx cx) = w6 at *
      clear x0 x1 x2 x3 x4 x5 y0 y1 y2 y3 y4 y5 l1
      refine (unhide KN K4 _ F3.b.ro 2 2 (by omega) (by omega) rfl).mono ?_
      rintro e w7 ⟨⟨hs, hhs, rfl⟩, hR1, hg1⟩
      have F4 := F3.call hR1 (F3.b.ro.next hg1)
      clear hR1 hg1 F3
      by_cases chs : hs = 1
      · subst chs
        obtain ⟨⟨x0, x1, x2, x3, x4, x5⟩, y0, y1, y2, y3, y4, y5⟩ := cells6 F4.b.ma
        have l1 := blk_lt F4.b.ma
        have hxc := (own_row F4.rx).2
        go_wp2_with fail
        clear x0 x1 x2 x3 x4 x5 y0 y1 y2 y3 y4 y5 l1
        refine (unhide KN K4 _ F4.b.ro (nx + 1) _ (by omega) (by omega) (by omega)).mono ?_
        rintro e w8 ⟨⟨r, hr, rfl⟩, hR1, hg1⟩
        have F5 := F4.call hR1 (F4.b.ro.next hg1)
        clear hR1 hg1 F4
        go_wp2_with fail
        refine (unhide KO K4 _ F5.b.ro (by omega)).mono ?_
        rintro e w9 ⟨o, K5, ho, ⟨hot, hon⟩, rfl, hR1, hK5, hf1⟩
        have E6 := F5.call hR1 hf1
        obtain ⟨nm, ty, kl, ttl, dt⟩ := o
        have HOK := hide ho
        have HON := hide hon
        clear hR1 hf1 F5 ho hon hot
        have hO := heap_alloc_new w9 (.cells #[.string nm, .int .i64 ty, .int .i64 kl, .int .i64 ttl, .string dt] 86)
        have F6 := E6.below ((Below.refl _ _).alloc (Nat.le_refl _) (.cells #[.string nm, .int .i64 ty, .int .i64 kl, .int .i64 ttl, .string dt] 86))
        clear E6
        go_upto_region 23 with fail
        generalize w9.alloc (.cells #[.string nm, .int .i64 ty, .int .i64 kl, .int .i64 ttl, .string dt] 86) = W at *
        generalize w9.heap.size = O at *
        obtain ⟨⟨x0, x1, x2, x3, x4, x5⟩, _⟩ := cells6 F6.b.ma
        have l1 := blk_lt F6.b.ma
        have i1 : (0 : Int) ≤ (r : Int) := by omega
        have HF6 := hide F6
        have HO := hide hO
        clear F6 hO
        rcases (unhide HF6).rx.2 with ⟨h0, hn0⟩ | ⟨g, cap, cur, h0, _⟩
        · cases h0
          obtain rfl : r = 0 := by omega
          go_upto_region 24 with (at_builtin; refine wpList_append_row _ rfl _ _ 23 23 rfl W.heap.size 86 i0 (.agg #[.string ⟨#[]⟩, .int .i64 0, .int .i64 0, .int .i64 0, .string ⟨#[]⟩]) 5 56 Try.underlying23 (unhide Hi) (unhide Hz0) (unhide Hz1) (unhide Hz2) rfl (.slice none 0 0) 0 [] (by rfl) (World.ownsRow_nil _ _ _ _) (.slice none 0 0) 0 (rcI (lx.take 0)) (by rfl) (src_take (unhide HF6).rx 0 (by omega)) (by unfold maxLen; omega) (by omega) (Nat.le_refl _) ?_; intro a1 c1 w10 hown10 hgrow10 hat10; simp only [Nat.zero_add, List.nil_append] at hown10 ⊢; have hb10 := below_app (Below.refl _ _) (World.ownsRow_nil W W.heap.size 86 5) hgrow10; clear hgrow10 hat10)
          obtain ⟨⟨o0, o1, o2, o3, o4⟩, _⟩ := cells5 ((hb10.block O (blk_lt (unhide HO))).trans (unhide HO))
          have s10 := hb10.size
          have lO : O < w10.heap.size := by have := blk_lt (unhide HO); omega
          clear x0 x1 x2 x3 x4 x5
          go_upto_region 25 with (at_builtin; refine wpList_append_row _ rfl _ _ 23 23 rfl W.heap.size 86 i0 (.agg #[.string ⟨#[]⟩, .int .i64 0, .int .i64 0, .int .i64 0, .string ⟨#[]⟩]) 5 56 Try.underlying23 (unhide Hi) (unhide Hz0) (unhide Hz1) (unhide Hz2) rfl (.slice a1 0 c1) 0 (rcI (lx.take 0)) (by rfl) (hown10.alloc _) (.slice (some ⟨w10.heap.size, 0, none⟩) 1 1) 1 [.string nm, .int .i64 ty, .int .i64 kl, .int .i64 ttl, .string dt] (by rfl) (Src.ofSlice _ Try.underlying23 ⟨w10.heap.size, 0, none⟩ 1 1 _ rfl (cell_five_new _ _ _ _ _ _ _ _ rfl) (fun x hx => by simp at hx; rcases hx with rfl | rfl | rfl | rfl | rfl <;> rfl)) (by unfold maxLen; omega) (by omega) (by simp; omega) ?_; intro a2 c2 w11 hown11 hgrow11 hat11; have hb11 := below_app (hb10.alloc s10 _) (hown10.alloc _) hgrow11; clear hgrow11 hat11)
          clear o0 o1 o2 o3 o4 lO hown10 hb10 s10
          have F11 := (unhide HF6).below hb11
          obtain ⟨⟨x0, x1, x2, x3, x4, x5⟩, _⟩ := cells6 F11.b.ma
          have HF11 := hide F11
          have s11 := hb11.size
          clear F11
          obtain ⟨ny, hny⟩ : ∃ ny, 0 + 1 + 0 = ny := ⟨_, rfl⟩
          have HNY := hide hny
          clear hny
          go_upto_region 26 with (at_builtin; (refine wpList_append_row _ rfl _ _ 23 23 rfl W.heap.size 86 i0 (.agg #[.string ⟨#[]⟩, .int .i64 0, .int .i64 0, .int .i64 0, .string ⟨#[]⟩]) 5 56 Try.underlying23 (unhide Hi) (unhide Hz0) (unhide Hz1) (unhide Hz2) rfl (.slice a2 (0 + 1) c2) (0 + 1) (rcI (lx.take 0) ++ [.string nm, .int .i64 ty, .int .i64 kl, .int .i64 ttl, .string dt]) (by rfl) hown11 (.slice none 0 0) 0 (rcI (lx.drop 0)) (by rfl) (by rw [List.drop_eq_nil_of_le (by rw [owns_len (unhide HF6).rx]; omega)]; exact Src.ofNil _ Try.underlying23 _) (by unfold maxLen; omega) (by omega) s11 ?_; intro a3 c3 w12 hown12 hgrow12 hat12; have hb12 := below_app hb11 hown11 hgrow12; clear hgrow12 hat12; rw [unhide HNY] at hown12 ⊢))
          clear x0 x1 x2 x3 x4 x5
          have F12 := (unhide HF6).below hb12
          obtain ⟨⟨x0, x1, x2, x3, x4, x5⟩, y0, y1, y2, y3, y4, y5⟩ := cells6 F12.b.ma
          have l2 := blk_lt F12.b.ma
          have erow : rcI (lx.take 0) ++ [.string nm, .int .i64 ty, .int .i64 kl, .int .i64 ttl, .string dt] ++ rcI (lx.drop 0) = rcI (lx.take 0 ++ ⟨nm, ty, kl, ttl, dt⟩ :: lx.drop 0) := rcI_put _ _ ⟨nm, ty, kl, ttl, dt⟩
          rw [erow] at hown12
          have F13 := (unhide HF6).newX F12 hown12
          have HX : Hid (partOk (lx.take 0 ++ ⟨nm, ty, kl, ttl, dt⟩ :: lx.drop 0) 2) := hide (part_put ((unhide HPx).take _) ((unhide HPx).drop _) (unhide HOK) (unhide HON) (by rw [owns_len hown12, ← unhide HNY]; omega))
          clear erow hown12 hb12 F12 hb11 hown11 s11 HF11
          generalize lx.take 0 ++ ⟨nm, ty, kl, ttl, dt⟩ :: lx.drop 0 = ly at *
          have HF5 := hide F13
          clear F13
          go_wp2_with fail
          generalize w12.setCell ⟨N + 2, 5, none⟩ (.slice a3 ny c3) = w13 at *
          clear x0 x1 x2 x3 x4 x5 y0 y1 y2 y3 y4 y5 l1 l2
          go_loopg [14] (mo + 1) (fun g vi w' => ∃ (i : Nat) (la' : List RI) (aa' : Option Addr) (ca' : Nat), vi = .int .i64 i ∧ i ≤ mo ∧ g = mo + 1 - i ∧ Hid (Plain la') ∧ Hid (FAt w N a n c K5 id fl (.slice aq j cq) j lq (.slice aa' (na + i) ca') (na + i) la' (.slice au nu cu) nu lu (.slice a3 ny c3) ny ly w'))
          case atStart => exact ⟨0, la, aa, ca, rfl, Nat.zero_le _, rfl, HPa, HF5⟩
          case round =>
            obtain ⟨i, lb, ab, cb, rfl, hi, rfl, HPb, HFb⟩ := hrel
            by_cases ci : i < mo
            · by_cases cn : 0 < na
              · obtain ⟨t, ht, hrem⟩ : ∃ t : Nat, t < na ∧ Int.tmod (i : Int) (na : Int) = (t : Int) := ⟨i % na, Nat.mod_lt _ cn, by rw [Int.tmod_eq_emod_of_nonneg (by omega)]; rfl⟩
                have elen := owns_len (unhide HFb).ra
                obtain ⟨g, rfl⟩ : ∃ g, ab = some ⟨g, 0, none⟩ := by
                  rcases (unhide HFb).ra.2 with ⟨h0, h1⟩ | ⟨g, cap, cur, h0, _⟩
                  · omega
                  · simp only [Value.slice.injEq, true_and] at h0
                    exact ⟨g, h0.1⟩
                obtain ⟨x, hx1, hqx, hx2, e0, e1, e2, e3, e4⟩ : ∃ x : RI, (recOk x ∧ x.ty ≠ 41) ∧ ((rcI lb)[t * 5]? = some (.string x.name) ∧ (rcI lb)[t * 5 + 1]? = some (.int .i64 x.ty) ∧ (rcI lb)[t * 5 + 2]? = some (.int .i64 x.cl) ∧ (rcI lb)[t * 5 + 3]? = some (.int .i64 x.ttl) ∧ (rcI lb)[t * 5 + 4]? = some (.string x.data)) ∧ g < wr.heap.size ∧ wr.cell? ⟨g, t * 5, none⟩ = some (.string x.name) ∧ wr.cell? ⟨g, t * 5 + 1, none⟩ = some (.int .i64 x.ty) ∧ wr.cell? ⟨g, t * 5 + 2, none⟩ = some (.int .i64 x.cl) ∧ wr.cell? ⟨g, t * 5 + 3, none⟩ = some (.int .i64 x.ttl) ∧ wr.cell? ⟨g, t * 5 + 4, none⟩ = some (.string x.data) := by
                  have hr := fun j u h => (unhide HFb).ra.cells (g := g) rfl j u h
                  obtain ⟨q0, q1, q2, q3, q4⟩ := rcI_at lb t (by omega)
                  have k0 := hr _ _ q0
                  have k1 := hr _ _ q1
                  have k2 := hr _ _ q2
                  have k3 := hr _ _ q3
                  have k4 := hr _ _ q4
                  simp only [Addr.add_lit, Nat.zero_add] at k0 k1 k2 k3 k4
                  exact ⟨lb[t]'(by omega), unhide HPb _ (List.getElem_mem _), ⟨q0, q1, q2, q3, q4⟩, ((unhide HFb).ra.lt g rfl).2, k0, k1, k2, k3, k4⟩
                have HPn := hide ((unhide HPb).push hx1.1 hx1.2)
                obtain ⟨nm, ty, kl, ttl, dt⟩ := x
                obtain ⟨⟨x0, x1, x2, x3, x4, x5⟩, y0, y1, y2, y3, y4, y5⟩ := cells6 (unhide HFb).b.ma
                have l1 := blk_lt (unhide HFb).b.ma
                have HQX := hide hqx
                clear hx1 elen hqx
                have hn0 : ¬ na = 0 := by omega
                have i1 : (0 : Int) ≤ (t : Int) := by omega
                have i2 : (t : Int) < (na : Int) + (i : Int) := by omega
                have i3 : t < na + i := by omega
                go_wp2_with fail
                refine wp_region_noPanic ?_
                refine wp_region_anyB (fun u => u.cell? ⟨N + 2, 3, none⟩ = some (.slice (some ⟨g, 0, none⟩) (na + i) cb) ∧ u.cell? ⟨g, t * 5, none⟩ = some (.string nm) ∧ u.cell? ⟨g, t * 5 + 1, none⟩ = some (.int .i64 ty) ∧ u.cell? ⟨g, t * 5 + 2, none⟩ = some (.int .i64 kl) ∧ u.cell? ⟨g, t * 5 + 3, none⟩ = some (.int .i64 ttl) ∧ u.cell? ⟨g, t * 5 + 4, none⟩ = some (.string dt)) 12 (by kernel_rfl) ?_
                have hS1 : wr.drew.cell? ⟨N + 2, 3, none⟩ = some (.slice (some ⟨g, 0, none⟩) (na + i) cb) ∧ wr.drew.cell? ⟨g, t * 5, none⟩ = some (.string nm) ∧ wr.drew.cell? ⟨g, t * 5 + 1, none⟩ = some (.int .i64 ty) ∧ wr.drew.cell? ⟨g, t * 5 + 2, none⟩ = some (.int .i64 kl) ∧ wr.drew.cell? ⟨g, t * 5 + 3, none⟩ = some (.int .i64 ttl) ∧ wr.drew.cell? ⟨g, t * 5 + 4, none⟩ = some (.string dt) := ⟨x3, e0, e1, e2, e3, e4⟩
                refine anyB_take (i := 0) (v := ?_) rfl rfl (by kernel_rfl) (by kernel_rfl) (by kernel_rfl) (by kernel_rfl) (fun _ _ _ h => h) (Or.inl ⟨by rfl, ?_⟩) hS1 ?_
                rotate_left
                · intro u hu
                  obtain ⟨u0, u1, u2, u3, u4, u5⟩ := hu
                  go_simp
                  try with_reducible rfl
                try simp only [Act.put]
                refine anyB_take (i := 1) (v := ?_) rfl rfl (by kernel_rfl) (by kernel_rfl) (by kernel_rfl) (by kernel_rfl) (fun _ _ _ h => h) (Or.inl ⟨by rfl, ?_⟩) hS1 ?_
                rotate_left
                · intro u hu
                  obtain ⟨u0, u1, u2, u3, u4, u5⟩ := hu
                  go_simp
                  try with_reducible rfl
                try simp only [Act.put]
                refine anyB_take (i := 2) (v := ?_) rfl rfl (by kernel_rfl) (by kernel_rfl) (by kernel_rfl) (by kernel_rfl) (fun _ _ _ h => h) (Or.inl ⟨by rfl, ?_⟩) hS1 ?_
                rotate_left
                · intro u hu
                  obtain ⟨u0, u1, u2, u3, u4, u5⟩ := hu
                  go_simp
                  try with_reducible rfl
                try simp only [Act.put]
                refine anyB_take (i := 3) (v := ?_) rfl rfl (by kernel_rfl) (by kernel_rfl) (by kernel_rfl) (by kernel_rfl) (fun _ _ _ h => h) (Or.inl ⟨by rfl, ?_⟩) hS1 ?_
                rotate_left
                · intro u hu
                  obtain ⟨u0, u1, u2, u3, u4, u5⟩ := hu
                  go_simp
                  try with_reducible rfl
                try simp only [Act.put]
                refine anyB_take (i := 4) (v := ?_) rfl rfl (by kernel_rfl) (by kernel_rfl) (by kernel_rfl) (by kernel_rfl) (fun _ _ _ h => h) (Or.inl ⟨by rfl, ?_⟩) hS1 ?_
                rotate_left
                · intro u hu
                  obtain ⟨u0, u1, u2, u3, u4, u5⟩ := hu
                  go_simp
                  try with_reducible rfl
                try simp only [Act.put]
                refine anyB_take (i := 5) (v := ?_) rfl rfl (by kernel_rfl) (by kernel_rfl) (by kernel_rfl) (by kernel_rfl) (fun _ _ _ h => h) (Or.inl ⟨by rfl, ?_⟩) hS1 ?_
                rotate_left
                · intro u hu
                  obtain ⟨u0, u1, u2, u3, u4, u5⟩ := hu
                  go_simp
                  try with_reducible rfl
                try simp only [Act.put]
                refine anyB_take (i := 6) (v := ?_) rfl rfl (by kernel_rfl) (by kernel_rfl) (by kernel_rfl) (by kernel_rfl) (fun _ _ _ h => h) (Or.inl ⟨by rfl, ?_⟩) hS1 ?_
                rotate_left
                · intro u hu
                  obtain ⟨u0, u1, u2, u3, u4, u5⟩ := hu
                  go_simp
                  try with_reducible rfl
                try simp only [Act.put]
                refine anyB_take (i := 7) (v := ?_) rfl rfl (by kernel_rfl) (by kernel_rfl) (by kernel_rfl) (by kernel_rfl) (fun _ _ _ h => h) (Or.inl ⟨by rfl, ?_⟩) hS1 ?_
                rotate_left
                · intro u hu
                  obtain ⟨u0, u1, u2, u3, u4, u5⟩ := hu
                  go_simp
                  try with_reducible rfl
                try simp only [Act.put]
                refine anyB_take (i := 8) (v := ?_) rfl rfl (by kernel_rfl) (by kernel_rfl) (by kernel_rfl) (by kernel_rfl) (fun _ _ _ h => h) (Or.inl ⟨by rfl, ?_⟩) hS1 ?_
                rotate_left
                · intro u hu
                  obtain ⟨u0, u1, u2, u3, u4, u5⟩ := hu
                  go_simp
                  try with_reducible rfl
                try simp only [Act.put]
                refine anyB_one (i := 9) rfl (by kernel_rfl) (fun K hK => ?_)
                go_simp
                have hA : Below wr.heap.size wr (wr.alloc (.cells #[.string nm, .int .i64 ty, .int .i64 kl, .int .i64 ttl, .string dt] 86)).drew := below_drewK ((Below.refl wr.heap.size wr).alloc (Nat.le_refl _) _) 1
                have hS2 := And.intro ((hA.cell (p := ⟨N + 2, 3, none⟩) l1).trans hS1.1) (And.intro ((hA.cell (p := ⟨g, t * 5, none⟩) hx2).trans hS1.2.1) (And.intro ((hA.cell (p := ⟨g, t * 5 + 1, none⟩) hx2).trans hS1.2.2.1) (And.intro ((hA.cell (p := ⟨g, t * 5 + 2, none⟩) hx2).trans hS1.2.2.2.1) (And.intro ((hA.cell (p := ⟨g, t * 5 + 3, none⟩) hx2).trans hS1.2.2.2.2.1) ((hA.cell (p := ⟨g, t * 5 + 4, none⟩) hx2).trans hS1.2.2.2.2.2)))))
                refine hK _ _ (fun _ => hS2) ?_
                clear hK K
                try simp only [Act.put]
                have FA := (unhide HFb).below hA
                have HFA := hide FA
                refine anyB_one (i := 10) rfl (by kernel_rfl) (fun K hK => ?_)
                rw [if_pos (by kernel_rfl)]
                refine oper_append_row _ _ 23 23 rfl N 86 i0 (.agg #[.string ⟨#[]⟩, .int .i64 0, .int .i64 0, .int .i64 0, .string ⟨#[]⟩]) 5 56 Try.underlying23 (unhide Hi) (unhide Hz0) (unhide Hz1) (unhide Hz2) rfl g (na + i) cb (rcI lb) (by rfl) (unhide HFA).ra (.slice (some ⟨wr.heap.size, 0, none⟩) 1 1) 1 [.string nm, .int .i64 ty, .int .i64 kl, .int .i64 ttl, .string dt] (by rfl) (Src.ofSlice _ Try.underlying23 ⟨wr.heap.size, 0, none⟩ 1 1 _ rfl (cell_five_new _ _ _ _ _ _ _ _ rfl) (fun x hx => by simp at hx; rcases hx with rfl | rfl | rfl | rfl | rfl <;> rfl)) (by unfold maxLen; omega) (by omega) (by have := FA.b.lt; omega) ?_
                intro a1 c1 w9 hown9 hgrow9 hat9 hold9
                have FN := FA.more (v := .slice a1 (na + i + 1) c1) (m := na + i + 1) (l := lb ++ [⟨nm, ty, kl, ttl, dt⟩]) (by rw [rcI_push]; exact hown9) hgrow9 hat9
                have B9 := FA.b.app FA.ra (Nat.le_refl _) hgrow9 (by decide) (by decide) (by decide)
                obtain ⟨⟨n0, n1, n2, n3, n4, n5⟩, p0, p1, p2, p3, p4, p5⟩ := cells6 B9.ma
                have l9 := blk_lt B9.ma
                have hS9 : w9.cell? ⟨N + 2, 3, none⟩ = some (.slice (some ⟨g, 0, none⟩) (na + i) cb) ∧ w9.cell? ⟨g, t * 5, none⟩ = some (.string nm) ∧ w9.cell? ⟨g, t * 5 + 1, none⟩ = some (.int .i64 ty) ∧ w9.cell? ⟨g, t * 5 + 2, none⟩ = some (.int .i64 kl) ∧ w9.cell? ⟨g, t * 5 + 3, none⟩ = some (.int .i64 ttl) ∧ w9.cell? ⟨g, t * 5 + 4, none⟩ = some (.string dt) := by
                  obtain ⟨q0, q1, q2, q3, q4⟩ := unhide HQX
                  exact ⟨n3, hold9 _ _ q0, hold9 _ _ q1, hold9 _ _ q2, hold9 _ _ q3, hold9 _ _ q4⟩
                refine hK _ _ (fun _ => hS9) ?_
                clear hK K hold9
                try simp only [Act.put]
                refine anyB_one (i := 11) rfl (by kernel_rfl) (fun K hK => ?_)
                go_simp
                refine hK _ _ (fun _ => hS9) ?_
                clear hK K
                try simp only [Act.put]
                refine anyB_one (i := 12) rfl (by kernel_rfl) (fun K hK => ?_)
                go_simp
                refine hK _ _ (fun h => absurd rfl h) (anyB_done (by kernel_rfl) ?_ _)
                clear hK K
                refine NoPanic.normal ?_
                have HFN := hide FN
                clear FN FA B9
                go_wp2_with fail
                go_roundg (mo + 1 - (i + 1))
                case measure => omega
                case rel => exact ⟨i + 1, _, a1, c1, by go_num, by omega, rfl, HPn, HFN⟩
              · obtain ⟨⟨x0, x1, x2, x3, x4, x5⟩, _⟩ := cells6 (unhide HFb).b.ma
                obtain ⟨_, o0, o1, o2, o3, o4, o5⟩ := cells6 (unhide HFb).b.pa
                have l1 := blk_lt (unhide HFb).b.ma
                have l2 := blk_lt (unhide HFb).b.pa
                go_wp2_with fail
                obtain ⟨⟨g0, g1, g2, g3, g4, g5⟩, _⟩ := cells6 (store6 (unhide HFb).b.pa (.int .i64 (id : Nat)) (.int .i64 (fl : Nat)) (.slice aq j cq) (.slice ab (na + i) cb) (.slice au nu cu) ((.slice a3 ny c3)))
                refine bodyPost_ret (v := .agg #[.int .i64 (id : Nat), .int .i64 (fl : Nat), .slice aq j cq, .slice ab (na + i) cb, .slice au nu cu, (.slice a3 ny c3)]) (by simp [results, Try.results16, go_sem, g0, g1, g2, g3, g4, g5]) rfl ?_
                have b6 := (((((((unhide HFb).b.be.setCell (p := ⟨N, 0, none⟩) (Nat.le_refl N) (.int .i64 (id : Nat))).setCell (p := ⟨N, 1, none⟩) (Nat.le_refl N) (.int .i64 (fl : Nat))).setCell (p := ⟨N, 2, none⟩) (Nat.le_refl N) (.slice aq j cq)).setCell (p := ⟨N, 3, none⟩) (Nat.le_refl N) (.slice ab (na + i) cb)).setCell (p := ⟨N, 4, none⟩) (Nat.le_refl N) (.slice au nu cu)).setCell (p := ⟨N, 5, none⟩) (Nat.le_refl N) ((.slice a3 ny c3)))
                exact built_done hid hfl (owns_set6 (unhide HFb).rq (unhide HFb).b.pa (by decide) _ _ _ _ _ _) (owns_set6 (unhide HFb).ra (unhide HFb).b.pa (by decide) _ _ _ _ _ _) (owns_set6 (unhide HFb).ru (unhide HFb).b.pa (by decide) _ _ _ _ _ _) (owns_set6 (unhide HFb).rx (unhide HFb).b.pa (by decide) _ _ _ _ _ _) (unhide HQ) (by omega) (unhide HPb) (by omega) (unhide HPu) (by omega) (unhide HX) b6
            · obtain ⟨⟨x0, x1, x2, x3, x4, x5⟩, _⟩ := cells6 (unhide HFb).b.ma
              obtain ⟨_, o0, o1, o2, o3, o4, o5⟩ := cells6 (unhide HFb).b.pa
              have l1 := blk_lt (unhide HFb).b.ma
              have l2 := blk_lt (unhide HFb).b.pa
              go_wp2_with fail
              obtain ⟨⟨g0, g1, g2, g3, g4, g5⟩, _⟩ := cells6 (store6 (unhide HFb).b.pa (.int .i64 (id : Nat)) (.int .i64 (fl : Nat)) (.slice aq j cq) (.slice ab (na + i) cb) (.slice au nu cu) ((.slice a3 ny c3)))
              refine bodyPost_ret (v := .agg #[.int .i64 (id : Nat), .int .i64 (fl : Nat), .slice aq j cq, .slice ab (na + i) cb, .slice au nu cu, (.slice a3 ny c3)]) (by simp [results, Try.results16, go_sem, g0, g1, g2, g3, g4, g5]) rfl ?_
              have b6 := (((((((unhide HFb).b.be.setCell (p := ⟨N, 0, none⟩) (Nat.le_refl N) (.int .i64 (id : Nat))).setCell (p := ⟨N, 1, none⟩) (Nat.le_refl N) (.int .i64 (fl : Nat))).setCell (p := ⟨N, 2, none⟩) (Nat.le_refl N) (.slice aq j cq)).setCell (p := ⟨N, 3, none⟩) (Nat.le_refl N) (.slice ab (na + i) cb)).setCell (p := ⟨N, 4, none⟩) (Nat.le_refl N) (.slice au nu cu)).setCell (p := ⟨N, 5, none⟩) (Nat.le_refl N) ((.slice a3 ny c3)))
              exact built_done hid hfl (owns_set6 (unhide HFb).rq (unhide HFb).b.pa (by decide) _ _ _ _ _ _) (owns_set6 (unhide HFb).ra (unhide HFb).b.pa (by decide) _ _ _ _ _ _) (owns_set6 (unhide HFb).ru (unhide HFb).b.pa (by decide) _ _ _ _ _ _) (owns_set6 (unhide HFb).rx (unhide HFb).b.pa (by decide) _ _ _ _ _ _) (unhide HQ) (by omega) (unhide HPb) (by omega) (unhide HPu) (by omega) (unhide HX) b6
        · cases h0
          have hb3 : (r : Int) ≤ (cx : Int) := by omega
          have hb4 : (r : Int) ≤ (nx : Int) := by omega
          have hb5 : r ≤ cx := by omega
          by_cases ecx : cx = r
          · obtain rfl : r = cx := ecx.symm
            obtain rfl : r = nx := by omega
            go_upto_region 24 with (at_builtin; refine wpList_append_row _ rfl _ _ 23 23 rfl W.heap.size 86 i0 (.agg #[.string ⟨#[]⟩, .int .i64 0, .int .i64 0, .int .i64 0, .string ⟨#[]⟩]) 5 56 Try.underlying23 (unhide Hi) (unhide Hz0) (unhide Hz1) (unhide Hz2) rfl (.slice none 0 0) 0 [] (by rfl) (World.ownsRow_nil _ _ _ _) (.slice (some ⟨g, 0, none⟩) r r) r (rcI (lx.take r)) (by rfl) (src_take (unhide HF6).rx r (by omega)) (by unfold maxLen; omega) (by omega) (Nat.le_refl _) ?_; intro a1 c1 w10 hown10 hgrow10 hat10; simp only [Nat.zero_add, List.nil_append] at hown10 ⊢; have hb10 := below_app (Below.refl _ _) (World.ownsRow_nil W W.heap.size 86 5) hgrow10; clear hgrow10 hat10)
            obtain ⟨⟨o0, o1, o2, o3, o4⟩, _⟩ := cells5 ((hb10.block O (blk_lt (unhide HO))).trans (unhide HO))
            have s10 := hb10.size
            have lO : O < w10.heap.size := by have := blk_lt (unhide HO); omega
            clear x0 x1 x2 x3 x4 x5
            go_upto_region 25 with (at_builtin; refine wpList_append_row _ rfl _ _ 23 23 rfl W.heap.size 86 i0 (.agg #[.string ⟨#[]⟩, .int .i64 0, .int .i64 0, .int .i64 0, .string ⟨#[]⟩]) 5 56 Try.underlying23 (unhide Hi) (unhide Hz0) (unhide Hz1) (unhide Hz2) rfl (.slice a1 r c1) r (rcI (lx.take r)) (by rfl) (hown10.alloc _) (.slice (some ⟨w10.heap.size, 0, none⟩) 1 1) 1 [.string nm, .int .i64 ty, .int .i64 kl, .int .i64 ttl, .string dt] (by rfl) (Src.ofSlice _ Try.underlying23 ⟨w10.heap.size, 0, none⟩ 1 1 _ rfl (cell_five_new _ _ _ _ _ _ _ _ rfl) (fun x hx => by simp at hx; rcases hx with rfl | rfl | rfl | rfl | rfl <;> rfl)) (by unfold maxLen; omega) (by omega) (by simp; omega) ?_; intro a2 c2 w11 hown11 hgrow11 hat11; have hb11 := below_app (hb10.alloc s10 _) (hown10.alloc _) hgrow11; clear hgrow11 hat11)
            clear o0 o1 o2 o3 o4 lO hown10 hb10 s10
            have F11 := (unhide HF6).below hb11
            obtain ⟨⟨x0, x1, x2, x3, x4, x5⟩, _⟩ := cells6 F11.b.ma
            have HF11 := hide F11
            have s11 := hb11.size
            clear F11
            obtain ⟨ny, hny⟩ : ∃ ny, r + 1 + 0 = ny := ⟨_, rfl⟩
            have HNY := hide hny
            clear hny
            go_upto_region 26 with (at_builtin; (refine wpList_append_row _ rfl _ _ 23 23 rfl W.heap.size 86 i0 (.agg #[.string ⟨#[]⟩, .int .i64 0, .int .i64 0, .int .i64 0, .string ⟨#[]⟩]) 5 56 Try.underlying23 (unhide Hi) (unhide Hz0) (unhide Hz1) (unhide Hz2) rfl (.slice a2 (r + 1) c2) (r + 1) (rcI (lx.take r) ++ [.string nm, .int .i64 ty, .int .i64 kl, .int .i64 ttl, .string dt]) (by rfl) hown11 (.slice (some ⟨g, 0, none⟩) 0 0) 0 (rcI (lx.drop r)) (by rfl) (by rw [List.drop_eq_nil_of_le (by rw [owns_len (unhide HF6).rx]; exact Nat.le_refl _)]; exact src_none _ _) (by unfold maxLen; omega) (by omega) s11 ?_; intro a3 c3 w12 hown12 hgrow12 hat12; have hb12 := below_app hb11 hown11 hgrow12; clear hgrow12 hat12; rw [unhide HNY] at hown12 ⊢))
            clear x0 x1 x2 x3 x4 x5
            have F12 := (unhide HF6).below hb12
            obtain ⟨⟨x0, x1, x2, x3, x4, x5⟩, y0, y1, y2, y3, y4, y5⟩ := cells6 F12.b.ma
            have l2 := blk_lt F12.b.ma
            have erow : rcI (lx.take r) ++ [.string nm, .int .i64 ty, .int .i64 kl, .int .i64 ttl, .string dt] ++ rcI (lx.drop r) = rcI (lx.take r ++ ⟨nm, ty, kl, ttl, dt⟩ :: lx.drop r) := rcI_put _ _ ⟨nm, ty, kl, ttl, dt⟩
            rw [erow] at hown12
            have F13 := (unhide HF6).newX F12 hown12
            have HX : Hid (partOk (lx.take r ++ ⟨nm, ty, kl, ttl, dt⟩ :: lx.drop r) 2) := hide (part_put ((unhide HPx).take _) ((unhide HPx).drop _) (unhide HOK) (unhide HON) (by rw [owns_len hown12, ← unhide HNY]; omega))
            clear erow hown12 hb12 F12 hb11 hown11 s11 HF11
            generalize lx.take r ++ ⟨nm, ty, kl, ttl, dt⟩ :: lx.drop r = ly at *
            have HF5 := hide F13
            clear F13
            go_wp2_with fail
            generalize w12.setCell ⟨N + 2, 5, none⟩ (.slice a3 ny c3) = w13 at *
            clear x0 x1 x2 x3 x4 x5 y0 y1 y2 y3 y4 y5 l1 l2
            go_loopg [14] (mo + 1) (fun g vi w' => ∃ (i : Nat) (la' : List RI) (aa' : Option Addr) (ca' : Nat), vi = .int .i64 i ∧ i ≤ mo ∧ g = mo + 1 - i ∧ Hid (Plain la') ∧ Hid (FAt w N a n c K5 id fl (.slice aq j cq) j lq (.slice aa' (na + i) ca') (na + i) la' (.slice au nu cu) nu lu (.slice a3 ny c3) ny ly w'))
            case atStart => exact ⟨0, la, aa, ca, rfl, Nat.zero_le _, rfl, HPa, HF5⟩
            case round =>
              obtain ⟨i, lb, ab, cb, rfl, hi, rfl, HPb, HFb⟩ := hrel
              by_cases ci : i < mo
              · by_cases cn : 0 < na
                · obtain ⟨t, ht, hrem⟩ : ∃ t : Nat, t < na ∧ Int.tmod (i : Int) (na : Int) = (t : Int) := ⟨i % na, Nat.mod_lt _ cn, by rw [Int.tmod_eq_emod_of_nonneg (by omega)]; rfl⟩
                  have elen := owns_len (unhide HFb).ra
                  obtain ⟨g, rfl⟩ : ∃ g, ab = some ⟨g, 0, none⟩ := by
                    rcases (unhide HFb).ra.2 with ⟨h0, h1⟩ | ⟨g, cap, cur, h0, _⟩
                    · omega
                    · simp only [Value.slice.injEq, true_and] at h0
                      exact ⟨g, h0.1⟩
                  obtain ⟨x, hx1, hqx, hx2, e0, e1, e2, e3, e4⟩ : ∃ x : RI, (recOk x ∧ x.ty ≠ 41) ∧ ((rcI lb)[t * 5]? = some (.string x.name) ∧ (rcI lb)[t * 5 + 1]? = some (.int .i64 x.ty) ∧ (rcI lb)[t * 5 + 2]? = some (.int .i64 x.cl) ∧ (rcI lb)[t * 5 + 3]? = some (.int .i64 x.ttl) ∧ (rcI lb)[t * 5 + 4]? = some (.string x.data)) ∧ g < wr.heap.size ∧ wr.cell? ⟨g, t * 5, none⟩ = some (.string x.name) ∧ wr.cell? ⟨g, t * 5 + 1, none⟩ = some (.int .i64 x.ty) ∧ wr.cell? ⟨g, t * 5 + 2, none⟩ = some (.int .i64 x.cl) ∧ wr.cell? ⟨g, t * 5 + 3, none⟩ = some (.int .i64 x.ttl) ∧ wr.cell? ⟨g, t * 5 + 4, none⟩ = some (.string x.data) := by
                    have hr := fun j u h => (unhide HFb).ra.cells (g := g) rfl j u h
                    obtain ⟨q0, q1, q2, q3, q4⟩ := rcI_at lb t (by omega)
                    have k0 := hr _ _ q0
                    have k1 := hr _ _ q1
                    have k2 := hr _ _ q2
                    have k3 := hr _ _ q3
                    have k4 := hr _ _ q4
                    simp only [Addr.add_lit, Nat.zero_add] at k0 k1 k2 k3 k4
                    exact ⟨lb[t]'(by omega), unhide HPb _ (List.getElem_mem _), ⟨q0, q1, q2, q3, q4⟩, ((unhide HFb).ra.lt g rfl).2, k0, k1, k2, k3, k4⟩
                  have HPn := hide ((unhide HPb).push hx1.1 hx1.2)
                  obtain ⟨nm, ty, kl, ttl, dt⟩ := x
                  obtain ⟨⟨x0, x1, x2, x3, x4, x5⟩, y0, y1, y2, y3, y4, y5⟩ := cells6 (unhide HFb).b.ma
                  have l1 := blk_lt (unhide HFb).b.ma
                  have HQX := hide hqx
                  clear hx1 elen hqx
                  have hn0 : ¬ na = 0 := by omega
                  have i1 : (0 : Int) ≤ (t : Int) := by omega
                  have i2 : (t : Int) < (na : Int) + (i : Int) := by omega
                  have i3 : t < na + i := by omega
                  go_wp2_with fail
                  refine wp_region_noPanic ?_
                  refine wp_region_anyB (fun u => u.cell? ⟨N + 2, 3, none⟩ = some (.slice (some ⟨g, 0, none⟩) (na + i) cb) ∧ u.cell? ⟨g, t * 5, none⟩ = some (.string nm) ∧ u.cell? ⟨g, t * 5 + 1, none⟩ = some (.int .i64 ty) ∧ u.cell? ⟨g, t * 5 + 2, none⟩ = some (.int .i64 kl) ∧ u.cell? ⟨g, t * 5 + 3, none⟩ = some (.int .i64 ttl) ∧ u.cell? ⟨g, t * 5 + 4, none⟩ = some (.string dt)) 12 (by kernel_rfl) ?_
                  have hS1 : wr.drew.cell? ⟨N + 2, 3, none⟩ = some (.slice (some ⟨g, 0, none⟩) (na + i) cb) ∧ wr.drew.cell? ⟨g, t * 5, none⟩ = some (.string nm) ∧ wr.drew.cell? ⟨g, t * 5 + 1, none⟩ = some (.int .i64 ty) ∧ wr.drew.cell? ⟨g, t * 5 + 2, none⟩ = some (.int .i64 kl) ∧ wr.drew.cell? ⟨g, t * 5 + 3, none⟩ = some (.int .i64 ttl) ∧ wr.drew.cell? ⟨g, t * 5 + 4, none⟩ = some (.string dt) := ⟨x3, e0, e1, e2, e3, e4⟩
                  refine anyB_take (i := 0) (v := ?_) rfl rfl (by kernel_rfl) (by kernel_rfl) (by kernel_rfl) (by kernel_rfl) (fun _ _ _ h => h) (Or.inl ⟨by rfl, ?_⟩) hS1 ?_
                  rotate_left
                  · intro u hu
                    obtain ⟨u0, u1, u2, u3, u4, u5⟩ := hu
                    go_simp
                    try with_reducible rfl
                  try simp only [Act.put]
                  refine anyB_take (i := 1) (v := ?_) rfl rfl (by kernel_rfl) (by kernel_rfl) (by kernel_rfl) (by kernel_rfl) (fun _ _ _ h => h) (Or.inl ⟨by rfl, ?_⟩) hS1 ?_
                  rotate_left
                  · intro u hu
                    obtain ⟨u0, u1, u2, u3, u4, u5⟩ := hu
                    go_simp
                    try with_reducible rfl
                  try simp only [Act.put]
                  refine anyB_take (i := 2) (v := ?_) rfl rfl (by kernel_rfl) (by kernel_rfl) (by kernel_rfl) (by kernel_rfl) (fun _ _ _ h => h) (Or.inl ⟨by rfl, ?_⟩) hS1 ?_
                  rotate_left
                  · intro u hu
                    obtain ⟨u0, u1, u2, u3, u4, u5⟩ := hu
                    go_simp
                    try with_reducible rfl
                  try simp only [Act.put]
                  refine anyB_take (i := 3) (v := ?_) rfl rfl (by kernel_rfl) (by kernel_rfl) (by kernel_rfl) (by kernel_rfl) (fun _ _ _ h => h) (Or.inl ⟨by rfl, ?_⟩) hS1 ?_
                  rotate_left
                  · intro u hu
                    obtain ⟨u0, u1, u2, u3, u4, u5⟩ := hu
                    go_simp
                    try with_reducible rfl
                  try simp only [Act.put]
                  refine anyB_take (i := 4) (v := ?_) rfl rfl (by kernel_rfl) (by kernel_rfl) (by kernel_rfl) (by kernel_rfl) (fun _ _ _ h => h) (Or.inl ⟨by rfl, ?_⟩) hS1 ?_
                  rotate_left
                  · intro u hu
                    obtain ⟨u0, u1, u2, u3, u4, u5⟩ := hu
                    go_simp
                    try with_reducible rfl
                  try simp only [Act.put]
                  refine anyB_take (i := 5) (v := ?_) rfl rfl (by kernel_rfl) (by kernel_rfl) (by kernel_rfl) (by kernel_rfl) (fun _ _ _ h => h) (Or.inl ⟨by rfl, ?_⟩) hS1 ?_
                  rotate_left
                  · intro u hu
                    obtain ⟨u0, u1, u2, u3, u4, u5⟩ := hu
                    go_simp
                    try with_reducible rfl
                  try simp only [Act.put]
                  refine anyB_take (i := 6) (v := ?_) rfl rfl (by kernel_rfl) (by kernel_rfl) (by kernel_rfl) (by kernel_rfl) (fun _ _ _ h => h) (Or.inl ⟨by rfl, ?_⟩) hS1 ?_
                  rotate_left
                  · intro u hu
                    obtain ⟨u0, u1, u2, u3, u4, u5⟩ := hu
                    go_simp
                    try with_reducible rfl
                  try simp only [Act.put]
                  refine anyB_take (i := 7) (v := ?_) rfl rfl (by kernel_rfl) (by kernel_rfl) (by kernel_rfl) (by kernel_rfl) (fun _ _ _ h => h) (Or.inl ⟨by rfl, ?_⟩) hS1 ?_
                  rotate_left
                  · intro u hu
                    obtain ⟨u0, u1, u2, u3, u4, u5⟩ := hu
                    go_simp
                    try with_reducible rfl
                  try simp only [Act.put]
                  refine anyB_take (i := 8) (v := ?_) rfl rfl (by kernel_rfl) (by kernel_rfl) (by kernel_rfl) (by kernel_rfl) (fun _ _ _ h => h) (Or.inl ⟨by rfl, ?_⟩) hS1 ?_
                  rotate_left
                  · intro u hu
                    obtain ⟨u0, u1, u2, u3, u4, u5⟩ := hu
                    go_simp
                    try with_reducible rfl
                  try simp only [Act.put]
                  refine anyB_one (i := 9) rfl (by kernel_rfl) (fun K hK => ?_)
                  go_simp
                  have hA : Below wr.heap.size wr (wr.alloc (.cells #[.string nm, .int .i64 ty, .int .i64 kl, .int .i64 ttl, .string dt] 86)).drew := below_drewK ((Below.refl wr.heap.size wr).alloc (Nat.le_refl _) _) 1
                  have hS2 := And.intro ((hA.cell (p := ⟨N + 2, 3, none⟩) l1).trans hS1.1) (And.intro ((hA.cell (p := ⟨g, t * 5, none⟩) hx2).trans hS1.2.1) (And.intro ((hA.cell (p := ⟨g, t * 5 + 1, none⟩) hx2).trans hS1.2.2.1) (And.intro ((hA.cell (p := ⟨g, t * 5 + 2, none⟩) hx2).trans hS1.2.2.2.1) (And.intro ((hA.cell (p := ⟨g, t * 5 + 3, none⟩) hx2).trans hS1.2.2.2.2.1) ((hA.cell (p := ⟨g, t * 5 + 4, none⟩) hx2).trans hS1.2.2.2.2.2)))))
                  refine hK _ _ (fun _ => hS2) ?_
                  clear hK K
                  try simp only [Act.put]
                  have FA := (unhide HFb).below hA
                  have HFA := hide FA
                  refine anyB_one (i := 10) rfl (by kernel_rfl) (fun K hK => ?_)
                  rw [if_pos (by kernel_rfl)]
                  refine oper_append_row _ _ 23 23 rfl N 86 i0 (.agg #[.string ⟨#[]⟩, .int .i64 0, .int .i64 0, .int .i64 0, .string ⟨#[]⟩]) 5 56 Try.underlying23 (unhide Hi) (unhide Hz0) (unhide Hz1) (unhide Hz2) rfl g (na + i) cb (rcI lb) (by rfl) (unhide HFA).ra (.slice (some ⟨wr.heap.size, 0, none⟩) 1 1) 1 [.string nm, .int .i64 ty, .int .i64 kl, .int .i64 ttl, .string dt] (by rfl) (Src.ofSlice _ Try.underlying23 ⟨wr.heap.size, 0, none⟩ 1 1 _ rfl (cell_five_new _ _ _ _ _ _ _ _ rfl) (fun x hx => by simp at hx; rcases hx with rfl | rfl | rfl | rfl | rfl <;> rfl)) (by unfold maxLen; omega) (by omega) (by have := FA.b.lt; omega) ?_
                  intro a1 c1 w9 hown9 hgrow9 hat9 hold9
                  have FN := FA.more (v := .slice a1 (na + i + 1) c1) (m := na + i + 1) (l := lb ++ [⟨nm, ty, kl, ttl, dt⟩]) (by rw [rcI_push]; exact hown9) hgrow9 hat9
                  have B9 := FA.b.app FA.ra (Nat.le_refl _) hgrow9 (by decide) (by decide) (by decide)
                  obtain ⟨⟨n0, n1, n2, n3, n4, n5⟩, p0, p1, p2, p3, p4, p5⟩ := cells6 B9.ma
                  have l9 := blk_lt B9.ma
                  have hS9 : w9.cell? ⟨N + 2, 3, none⟩ = some (.slice (some ⟨g, 0, none⟩) (na + i) cb) ∧ w9.cell? ⟨g, t * 5, none⟩ = some (.string nm) ∧ w9.cell? ⟨g, t * 5 + 1, none⟩ = some (.int .i64 ty) ∧ w9.cell? ⟨g, t * 5 + 2, none⟩ = some (.int .i64 kl) ∧ w9.cell? ⟨g, t * 5 + 3, none⟩ = some (.int .i64 ttl) ∧ w9.cell? ⟨g, t * 5 + 4, none⟩ = some (.string dt) := by
                    obtain ⟨q0, q1, q2, q3, q4⟩ := unhide HQX
                    exact ⟨n3, hold9 _ _ q0, hold9 _ _ q1, hold9 _ _ q2, hold9 _ _ q3, hold9 _ _ q4⟩
                  refine hK _ _ (fun _ => hS9) ?_
                  clear hK K hold9
                  try simp only [Act.put]
                  refine anyB_one (i := 11) rfl (by kernel_rfl) (fun K hK => ?_)
                  go_simp
                  refine hK _ _ (fun _ => hS9) ?_
                  clear hK K
                  try simp only [Act.put]
                  refine anyB_one (i := 12) rfl (by kernel_rfl) (fun K hK => ?_)
                  go_simp
                  refine hK _ _ (fun h => absurd rfl h) (anyB_done (by kernel_rfl) ?_ _)
                  clear hK K
                  refine NoPanic.normal ?_
                  have HFN := hide FN
                  clear FN FA B9
                  go_wp2_with fail
                  go_roundg (mo + 1 - (i + 1))
                  case measure => omega
                  case rel => exact ⟨i + 1, _, a1, c1, by go_num, by omega, rfl, HPn, HFN⟩
                · obtain ⟨⟨x0, x1, x2, x3, x4, x5⟩, _⟩ := cells6 (unhide HFb).b.ma
                  obtain ⟨_, o0, o1, o2, o3, o4, o5⟩ := cells6 (unhide HFb).b.pa
                  have l1 := blk_lt (unhide HFb).b.ma
                  have l2 := blk_lt (unhide HFb).b.pa
                  go_wp2_with fail
                  obtain ⟨⟨g0, g1, g2, g3, g4, g5⟩, _⟩ := cells6 (store6 (unhide HFb).b.pa (.int .i64 (id : Nat)) (.int .i64 (fl : Nat)) (.slice aq j cq) (.slice ab (na + i) cb) (.slice au nu cu) ((.slice a3 ny c3)))
                  refine bodyPost_ret (v := .agg #[.int .i64 (id : Nat), .int .i64 (fl : Nat), .slice aq j cq, .slice ab (na + i) cb, .slice au nu cu, (.slice a3 ny c3)]) (by simp [results, Try.results16, go_sem, g0, g1, g2, g3, g4, g5]) rfl ?_
                  have b6 := (((((((unhide HFb).b.be.setCell (p := ⟨N, 0, none⟩) (Nat.le_refl N) (.int .i64 (id : Nat))).setCell (p := ⟨N, 1, none⟩) (Nat.le_refl N) (.int .i64 (fl : Nat))).setCell (p := ⟨N, 2, none⟩) (Nat.le_refl N) (.slice aq j cq)).setCell (p := ⟨N, 3, none⟩) (Nat.le_refl N) (.slice ab (na + i) cb)).setCell (p := ⟨N, 4, none⟩) (Nat.le_refl N) (.slice au nu cu)).setCell (p := ⟨N, 5, none⟩) (Nat.le_refl N) ((.slice a3 ny c3)))
                  exact built_done hid hfl (owns_set6 (unhide HFb).rq (unhide HFb).b.pa (by decide) _ _ _ _ _ _) (owns_set6 (unhide HFb).ra (unhide HFb).b.pa (by decide) _ _ _ _ _ _) (owns_set6 (unhide HFb).ru (unhide HFb).b.pa (by decide) _ _ _ _ _ _) (owns_set6 (unhide HFb).rx (unhide HFb).b.pa (by decide) _ _ _ _ _ _) (unhide HQ) (by omega) (unhide HPb) (by omega) (unhide HPu) (by omega) (unhide HX) b6
              · obtain ⟨⟨x0, x1, x2, x3, x4, x5⟩, _⟩ := cells6 (unhide HFb).b.ma
                obtain ⟨_, o0, o1, o2, o3, o4, o5⟩ := cells6 (unhide HFb).b.pa
                have l1 := blk_lt (unhide HFb).b.ma
                have l2 := blk_lt (unhide HFb).b.pa
                go_wp2_with fail
                obtain ⟨⟨g0, g1, g2, g3, g4, g5⟩, _⟩ := cells6 (store6 (unhide HFb).b.pa (.int .i64 (id : Nat)) (.int .i64 (fl : Nat)) (.slice aq j cq) (.slice ab (na + i) cb) (.slice au nu cu) ((.slice a3 ny c3)))
                refine bodyPost_ret (v := .agg #[.int .i64 (id : Nat), .int .i64 (fl : Nat), .slice aq j cq, .slice ab (na + i) cb, .slice au nu cu, (.slice a3 ny c3)]) (by simp [results, Try.results16, go_sem, g0, g1, g2, g3, g4, g5]) rfl ?_
                have b6 := (((((((unhide HFb).b.be.setCell (p := ⟨N, 0, none⟩) (Nat.le_refl N) (.int .i64 (id : Nat))).setCell (p := ⟨N, 1, none⟩) (Nat.le_refl N) (.int .i64 (fl : Nat))).setCell (p := ⟨N, 2, none⟩) (Nat.le_refl N) (.slice aq j cq)).setCell (p := ⟨N, 3, none⟩) (Nat.le_refl N) (.slice ab (na + i) cb)).setCell (p := ⟨N, 4, none⟩) (Nat.le_refl N) (.slice au nu cu)).setCell (p := ⟨N, 5, none⟩) (Nat.le_refl N) ((.slice a3 ny c3)))
                exact built_done hid hfl (owns_set6 (unhide HFb).rq (unhide HFb).b.pa (by decide) _ _ _ _ _ _) (owns_set6 (unhide HFb).ra (unhide HFb).b.pa (by decide) _ _ _ _ _ _) (owns_set6 (unhide HFb).ru (unhide HFb).b.pa (by decide) _ _ _ _ _ _) (owns_set6 (unhide HFb).rx (unhide HFb).b.pa (by decide) _ _ _ _ _ _) (unhide HQ) (by omega) (unhide HPb) (by omega) (unhide HPu) (by omega) (unhide HX) b6
          · go_upto_region 24 with (at_builtin; refine wpList_append_row _ rfl _ _ 23 23 rfl W.heap.size 86 i0 (.agg #[.string ⟨#[]⟩, .int .i64 0, .int .i64 0, .int .i64 0, .string ⟨#[]⟩]) 5 56 Try.underlying23 (unhide Hi) (unhide Hz0) (unhide Hz1) (unhide Hz2) rfl (.slice none 0 0) 0 [] (by rfl) (World.ownsRow_nil _ _ _ _) (.slice (some ⟨g, 0, none⟩) r cx) r (rcI (lx.take r)) (by rfl) (src_take (unhide HF6).rx r (by omega)) (by unfold maxLen; omega) (by omega) (Nat.le_refl _) ?_; intro a1 c1 w10 hown10 hgrow10 hat10; simp only [Nat.zero_add, List.nil_append] at hown10 ⊢; have hb10 := below_app (Below.refl _ _) (World.ownsRow_nil W W.heap.size 86 5) hgrow10; clear hgrow10 hat10)
            obtain ⟨⟨o0, o1, o2, o3, o4⟩, _⟩ := cells5 ((hb10.block O (blk_lt (unhide HO))).trans (unhide HO))
            have s10 := hb10.size
            have lO : O < w10.heap.size := by have := blk_lt (unhide HO); omega
            clear x0 x1 x2 x3 x4 x5
            go_upto_region 25 with (at_builtin; refine wpList_append_row _ rfl _ _ 23 23 rfl W.heap.size 86 i0 (.agg #[.string ⟨#[]⟩, .int .i64 0, .int .i64 0, .int .i64 0, .string ⟨#[]⟩]) 5 56 Try.underlying23 (unhide Hi) (unhide Hz0) (unhide Hz1) (unhide Hz2) rfl (.slice a1 r c1) r (rcI (lx.take r)) (by rfl) (hown10.alloc _) (.slice (some ⟨w10.heap.size, 0, none⟩) 1 1) 1 [.string nm, .int .i64 ty, .int .i64 kl, .int .i64 ttl, .string dt] (by rfl) (Src.ofSlice _ Try.underlying23 ⟨w10.heap.size, 0, none⟩ 1 1 _ rfl (cell_five_new _ _ _ _ _ _ _ _ rfl) (fun x hx => by simp at hx; rcases hx with rfl | rfl | rfl | rfl | rfl <;> rfl)) (by unfold maxLen; omega) (by omega) (by simp; omega) ?_; intro a2 c2 w11 hown11 hgrow11 hat11; have hb11 := below_app (hb10.alloc s10 _) (hown10.alloc _) hgrow11; clear hgrow11 hat11)
            clear o0 o1 o2 o3 o4 lO hown10 hb10 s10
            have F11 := (unhide HF6).below hb11
            obtain ⟨⟨x0, x1, x2, x3, x4, x5⟩, _⟩ := cells6 F11.b.ma
            have HF11 := hide F11
            have s11 := hb11.size
            clear F11
            obtain ⟨ny, hny⟩ : ∃ ny, r + 1 + (nx - r) = ny := ⟨_, rfl⟩
            have HNY := hide hny
            clear hny
            go_upto_region 26 with (at_builtin; (refine wpList_append_row _ rfl _ _ 23 23 rfl W.heap.size 86 i0 (.agg #[.string ⟨#[]⟩, .int .i64 0, .int .i64 0, .int .i64 0, .string ⟨#[]⟩]) 5 56 Try.underlying23 (unhide Hi) (unhide Hz0) (unhide Hz1) (unhide Hz2) rfl (.slice a2 (r + 1) c2) (r + 1) (rcI (lx.take r) ++ [.string nm, .int .i64 ty, .int .i64 kl, .int .i64 ttl, .string dt]) (by rfl) hown11 (.slice (some ⟨g, r * 5, none⟩) (nx - r) (cx - r)) (nx - r) (rcI (lx.drop r)) (by rfl) (src_drop (unhide HF11).rx r (by omega) _) (by unfold maxLen; omega) (by omega) s11 ?_; intro a3 c3 w12 hown12 hgrow12 hat12; have hb12 := below_app hb11 hown11 hgrow12; clear hgrow12 hat12; rw [unhide HNY] at hown12 ⊢))
            clear x0 x1 x2 x3 x4 x5
            have F12 := (unhide HF6).below hb12
            obtain ⟨⟨x0, x1, x2, x3, x4, x5⟩, y0, y1, y2, y3, y4, y5⟩ := cells6 F12.b.ma
            have l2 := blk_lt F12.b.ma
            have erow : rcI (lx.take r) ++ [.string nm, .int .i64 ty, .int .i64 kl, .int .i64 ttl, .string dt] ++ rcI (lx.drop r) = rcI (lx.take r ++ ⟨nm, ty, kl, ttl, dt⟩ :: lx.drop r) := rcI_put _ _ ⟨nm, ty, kl, ttl, dt⟩
            rw [erow] at hown12
            have F13 := (unhide HF6).newX F12 hown12
            have HX : Hid (partOk (lx.take r ++ ⟨nm, ty, kl, ttl, dt⟩ :: lx.drop r) 2) := hide (part_put ((unhide HPx).take _) ((unhide HPx).drop _) (unhide HOK) (unhide HON) (by rw [owns_len hown12, ← unhide HNY]; omega))
            clear erow hown12 hb12 F12 hb11 hown11 s11 HF11
            generalize lx.take r ++ ⟨nm, ty, kl, ttl, dt⟩ :: lx.drop r = ly at *
            have HF5 := hide F13
            clear F13
            go_wp2_with fail
            generalize w12.setCell ⟨N + 2, 5, none⟩ (.slice a3 ny c3) = w13 at *
            clear x0 x1 x2 x3 x4 x5 y0 y1 y2 y3 y4 y5 l1 l2
            go_loopg [14] (mo + 1) (fun g vi w' => ∃ (i : Nat) (la' : List RI) (aa' : Option Addr) (ca' : Nat), vi = .int .i64 i ∧ i ≤ mo ∧ g = mo + 1 - i ∧ Hid (Plain la') ∧ Hid (FAt w N a n c K5 id fl (.slice aq j cq) j lq (.slice aa' (na + i) ca') (na + i) la' (.slice au nu cu) nu lu (.slice a3 ny c3) ny ly w'))
            case atStart => exact ⟨0, la, aa, ca, rfl, Nat.zero_le _, rfl, HPa, HF5⟩
            case round =>
              obtain ⟨i, lb, ab, cb, rfl, hi, rfl, HPb, HFb⟩ := hrel
              by_cases ci : i < mo
              · by_cases cn : 0 < na
                · obtain ⟨t, ht, hrem⟩ : ∃ t : Nat, t < na ∧ Int.tmod (i : Int) (na : Int) = (t : Int) := ⟨i % na, Nat.mod_lt _ cn, by rw [Int.tmod_eq_emod_of_nonneg (by omega)]; rfl⟩
                  have elen := owns_len (unhide HFb).ra
                  obtain ⟨g, rfl⟩ : ∃ g, ab = some ⟨g, 0, none⟩ := by
                    rcases (unhide HFb).ra.2 with ⟨h0, h1⟩ | ⟨g, cap, cur, h0, _⟩
                    · omega
                    · simp only [Value.slice.injEq, true_and] at h0
                      exact ⟨g, h0.1⟩
                  obtain ⟨x, hx1, hqx, hx2, e0, e1, e2, e3, e4⟩ : ∃ x : RI, (recOk x ∧ x.ty ≠ 41) ∧ ((rcI lb)[t * 5]? = some (.string x.name) ∧ (rcI lb)[t * 5 + 1]? = some (.int .i64 x.ty) ∧ (rcI lb)[t * 5 + 2]? = some (.int .i64 x.cl) ∧ (rcI lb)[t * 5 + 3]? = some (.int .i64 x.ttl) ∧ (rcI lb)[t * 5 + 4]? = some (.string x.data)) ∧ g < wr.heap.size ∧ wr.cell? ⟨g, t * 5, none⟩ = some (.string x.name) ∧ wr.cell? ⟨g, t * 5 + 1, none⟩ = some (.int .i64 x.ty) ∧ wr.cell? ⟨g, t * 5 + 2, none⟩ = some (.int .i64 x.cl) ∧ wr.cell? ⟨g, t * 5 + 3, none⟩ = some (.int .i64 x.ttl) ∧ wr.cell? ⟨g, t * 5 + 4, none⟩ = some (.string x.data) := by
                    have hr := fun j u h => (unhide HFb).ra.cells (g := g) rfl j u h
                    obtain ⟨q0, q1, q2, q3, q4⟩ := rcI_at lb t (by omega)
                    have k0 := hr _ _ q0
                    have k1 := hr _ _ q1
                    have k2 := hr _ _ q2
                    have k3 := hr _ _ q3
                    have k4 := hr _ _ q4
                    simp only [Addr.add_lit, Nat.zero_add] at k0 k1 k2 k3 k4
                    exact ⟨lb[t]'(by omega), unhide HPb _ (List.getElem_mem _), ⟨q0, q1, q2, q3, q4⟩, ((unhide HFb).ra.lt g rfl).2, k0, k1, k2, k3, k4⟩
                  have HPn := hide ((unhide HPb).push hx1.1 hx1.2)
                  obtain ⟨nm, ty, kl, ttl, dt⟩ := x
                  obtain ⟨⟨x0, x1, x2, x3, x4, x5⟩, y0, y1, y2, y3, y4, y5⟩ := cells6 (unhide HFb).b.ma
                  have l1 := blk_lt (unhide HFb).b.ma
                  have HQX := hide hqx
                  clear hx1 elen hqx
                  have hn0 : ¬ na = 0 := by omega
                  have i1 : (0 : Int) ≤ (t : Int) := by omega
                  have i2 : (t : Int) < (na : Int) + (i : Int) := by omega
                  have i3 : t < na + i := by omega
                  go_wp2_with fail
                  refine wp_region_noPanic ?_
                  refine wp_region_anyB (fun u => u.cell? ⟨N + 2, 3, none⟩ = some (.slice (some ⟨g, 0, none⟩) (na + i) cb) ∧ u.cell? ⟨g, t * 5, none⟩ = some (.string nm) ∧ u.cell? ⟨g, t * 5 + 1, none⟩ = some (.int .i64 ty) ∧ u.cell? ⟨g, t * 5 + 2, none⟩ = some (.int .i64 kl) ∧ u.cell? ⟨g, t * 5 + 3, none⟩ = some (.int .i64 ttl) ∧ u.cell? ⟨g, t * 5 + 4, none⟩ = some (.string dt)) 12 (by kernel_rfl) ?_
                  have hS1 : wr.drew.cell? ⟨N + 2, 3, none⟩ = some (.slice (some ⟨g, 0, none⟩) (na + i) cb) ∧ wr.drew.cell? ⟨g, t * 5, none⟩ = some (.string nm) ∧ wr.drew.cell? ⟨g, t * 5 + 1, none⟩ = some (.int .i64 ty) ∧ wr.drew.cell? ⟨g, t * 5 + 2, none⟩ = some (.int .i64 kl) ∧ wr.drew.cell? ⟨g, t * 5 + 3, none⟩ = some (.int .i64 ttl) ∧ wr.drew.cell? ⟨g, t * 5 + 4, none⟩ = some (.string dt) := ⟨x3, e0, e1, e2, e3, e4⟩
                  refine anyB_take (i := 0) (v := ?_) rfl rfl (by kernel_rfl) (by kernel_rfl) (by kernel_rfl) (by kernel_rfl) (fun _ _ _ h => h) (Or.inl ⟨by rfl, ?_⟩) hS1 ?_
                  rotate_left
                  · intro u hu
                    obtain ⟨u0, u1, u2, u3, u4, u5⟩ := hu
                    go_simp
                    try with_reducible rfl
                  try simp only [Act.put]
                  refine anyB_take (i := 1) (v := ?_) rfl rfl (by kernel_rfl) (by kernel_rfl) (by kernel_rfl) (by kernel_rfl) (fun _ _ _ h => h) (Or.inl ⟨by rfl, ?_⟩) hS1 ?_
                  rotate_left
                  · intro u hu
                    obtain ⟨u0, u1, u2, u3, u4, u5⟩ := hu
                    go_simp
                    try with_reducible rfl
                  try simp only [Act.put]
                  refine anyB_take (i := 2) (v := ?_) rfl rfl (by kernel_rfl) (by kernel_rfl) (by kernel_rfl) (by kernel_rfl) (fun _ _ _ h => h) (Or.inl ⟨by rfl, ?_⟩) hS1 ?_
                  rotate_left
                  · intro u hu
                    obtain ⟨u0, u1, u2, u3, u4, u5⟩ := hu
                    go_simp
                    try with_reducible rfl
                  try simp only [Act.put]
                  refine anyB_take (i := 3) (v := ?_) rfl rfl (by kernel_rfl) (by kernel_rfl) (by kernel_rfl) (by kernel_rfl) (fun _ _ _ h => h) (Or.inl ⟨by rfl, ?_⟩) hS1 ?_
                  rotate_left
                  · intro u hu
                    obtain ⟨u0, u1, u2, u3, u4, u5⟩ := hu
                    go_simp
                    try with_reducible rfl
                  try simp only [Act.put]
                  refine anyB_take (i := 4) (v := ?_) rfl rfl (by kernel_rfl) (by kernel_rfl) (by kernel_rfl) (by kernel_rfl) (fun _ _ _ h => h) (Or.inl ⟨by rfl, ?_⟩) hS1 ?_
                  rotate_left
                  · intro u hu
                    obtain ⟨u0, u1, u2, u3, u4, u5⟩ := hu
                    go_simp
                    try with_reducible rfl
                  try simp only [Act.put]
                  refine anyB_take (i := 5) (v := ?_) rfl rfl (by kernel_rfl) (by kernel_rfl) (by kernel_rfl) (by kernel_rfl) (fun _ _ _ h => h) (Or.inl ⟨by rfl, ?_⟩) hS1 ?_
                  rotate_left
                  · intro u hu
                    obtain ⟨u0, u1, u2, u3, u4, u5⟩ := hu
                    go_simp
                    try with_reducible rfl
                  try simp only [Act.put]
                  refine anyB_take (i := 6) (v := ?_) rfl rfl (by kernel_rfl) (by kernel_rfl) (by kernel_rfl) (by kernel_rfl) (fun _ _ _ h => h) (Or.inl ⟨by rfl, ?_⟩) hS1 ?_
                  rotate_left
                  · intro u hu
                    obtain ⟨u0, u1, u2, u3, u4, u5⟩ := hu
                    go_simp
                    try with_reducible rfl
                  try simp only [Act.put]
                  refine anyB_take (i := 7) (v := ?_) rfl rfl (by kernel_rfl) (by kernel_rfl) (by kernel_rfl) (by kernel_rfl) (fun _ _ _ h => h) (Or.inl ⟨by rfl, ?_⟩) hS1 ?_
                  rotate_left
                  · intro u hu
                    obtain ⟨u0, u1, u2, u3, u4, u5⟩ := hu
                    go_simp
                    try with_reducible rfl
                  try simp only [Act.put]
                  refine anyB_take (i := 8) (v := ?_) rfl rfl (by kernel_rfl) (by kernel_rfl) (by kernel_rfl) (by kernel_rfl) (fun _ _ _ h => h) (Or.inl ⟨by rfl, ?_⟩) hS1 ?_
                  rotate_left
                  · intro u hu
                    obtain ⟨u0, u1, u2, u3, u4, u5⟩ := hu
                    go_simp
                    try with_reducible rfl
                  try simp only [Act.put]
                  refine anyB_one (i := 9) rfl (by kernel_rfl) (fun K hK => ?_)
                  go_simp
                  have hA : Below wr.heap.size wr (wr.alloc (.cells #[.string nm, .int .i64 ty, .int .i64 kl, .int .i64 ttl, .string dt] 86)).drew := below_drewK ((Below.refl wr.heap.size wr).alloc (Nat.le_refl _) _) 1
                  have hS2 := And.intro ((hA.cell (p := ⟨N + 2, 3, none⟩) l1).trans hS1.1) (And.intro ((hA.cell (p := ⟨g, t * 5, none⟩) hx2).trans hS1.2.1) (And.intro ((hA.cell (p := ⟨g, t * 5 + 1, none⟩) hx2).trans hS1.2.2.1) (And.intro ((hA.cell (p := ⟨g, t * 5 + 2, none⟩) hx2).trans hS1.2.2.2.1) (And.intro ((hA.cell (p := ⟨g, t * 5 + 3, none⟩) hx2).trans hS1.2.2.2.2.1) ((hA.cell (p := ⟨g, t * 5 + 4, none⟩) hx2).trans hS1.2.2.2.2.2)))))
                  refine hK _ _ (fun _ => hS2) ?_
                  clear hK K
                  try simp only [Act.put]
                  have FA := (unhide HFb).below hA
                  have HFA := hide FA
                  refine anyB_one (i := 10) rfl (by kernel_rfl) (fun K hK => ?_)
                  rw [if_pos (by kernel_rfl)]
                  refine oper_append_row _ _ 23 23 rfl N 86 i0 (.agg #[.string ⟨#[]⟩, .int .i64 0, .int .i64 0, .int .i64 0, .string ⟨#[]⟩]) 5 56 Try.underlying23 (unhide Hi) (unhide Hz0) (unhide Hz1) (unhide Hz2) rfl g (na + i) cb (rcI lb) (by rfl) (unhide HFA).ra (.slice (some ⟨wr.heap.size, 0, none⟩) 1 1) 1 [.string nm, .int .i64 ty, .int .i64 kl, .int .i64 ttl, .string dt] (by rfl) (Src.ofSlice _ Try.underlying23 ⟨wr.heap.size, 0, none⟩ 1 1 _ rfl (cell_five_new _ _ _ _ _ _ _ _ rfl) (fun x hx => by simp at hx; rcases hx with rfl | rfl | rfl | rfl | rfl <;> rfl)) (by unfold maxLen; omega) (by omega) (by have := FA.b.lt; omega) ?_
                  intro a1 c1 w9 hown9 hgrow9 hat9 hold9
                  have FN := FA.more (v := .slice a1 (na + i + 1) c1) (m := na + i + 1) (l := lb ++ [⟨nm, ty, kl, ttl, dt⟩]) (by rw [rcI_push]; exact hown9) hgrow9 hat9
                  have B9 := FA.b.app FA.ra (Nat.le_refl _) hgrow9 (by decide) (by decide) (by decide)
                  obtain ⟨⟨n0, n1, n2, n3, n4, n5⟩, p0, p1, p2, p3, p4, p5⟩ := cells6 B9.ma
                  have l9 := blk_lt B9.ma
                  have hS9 : w9.cell? ⟨N + 2, 3, none⟩ = some (.slice (some ⟨g, 0, none⟩) (na + i) cb) ∧ w9.cell? ⟨g, t * 5, none⟩ = some (.string nm) ∧ w9.cell? ⟨g, t * 5 + 1, none⟩ = some (.int .i64 ty) ∧ w9.cell? ⟨g, t * 5 + 2, none⟩ = some (.int .i64 kl) ∧ w9.cell? ⟨g, t * 5 + 3, none⟩ = some (.int .i64 ttl) ∧ w9.cell? ⟨g, t * 5 + 4, none⟩ = some (.string dt) := by
                    obtain ⟨q0, q1, q2, q3, q4⟩ := unhide HQX
                    exact ⟨n3, hold9 _ _ q0, hold9 _ _ q1, hold9 _ _ q2, hold9 _ _ q3, hold9 _ _ q4⟩
                  refine hK _ _ (fun _ => hS9) ?_
                  clear hK K hold9
                  try simp only [Act.put]
                  refine anyB_one (i := 11) rfl (by kernel_rfl) (fun K hK => ?_)
                  go_simp
                  refine hK _ _ (fun _ => hS9) ?_
                  clear hK K
                  try simp only [Act.put]
                  refine anyB_one (i := 12) rfl (by kernel_rfl) (fun K hK => ?_)
                  go_simp
                  refine hK _ _ (fun h => absurd rfl h) (anyB_done (by kernel_rfl) ?_ _)
                  clear hK K
                  refine NoPanic.normal ?_
                  have HFN := hide FN
                  clear FN FA B9
                  go_wp2_with fail
                  go_roundg (mo + 1 - (i + 1))
                  case measure => omega
                  case rel => exact ⟨i + 1, _, a1, c1, by go_num, by omega, rfl, HPn, HFN⟩
                · obtain ⟨⟨x0, x1, x2, x3, x4, x5⟩, _⟩ := cells6 (unhide HFb).b.ma
                  obtain ⟨_, o0, o1, o2, o3, o4, o5⟩ := cells6 (unhide HFb).b.pa
                  have l1 := blk_lt (unhide HFb).b.ma
                  have l2 := blk_lt (unhide HFb).b.pa
                  go_wp2_with fail
                  obtain ⟨⟨g0, g1, g2, g3, g4, g5⟩, _⟩ := cells6 (store6 (unhide HFb).b.pa (.int .i64 (id : Nat)) (.int .i64 (fl : Nat)) (.slice aq j cq) (.slice ab (na + i) cb) (.slice au nu cu) ((.slice a3 ny c3)))
                  refine bodyPost_ret (v := .agg #[.int .i64 (id : Nat), .int .i64 (fl : Nat), .slice aq j cq, .slice ab (na + i) cb, .slice au nu cu, (.slice a3 ny c3)]) (by simp [results, Try.results16, go_sem, g0, g1, g2, g3, g4, g5]) rfl ?_
                  have b6 := (((((((unhide HFb).b.be.setCell (p := ⟨N, 0, none⟩) (Nat.le_refl N) (.int .i64 (id : Nat))).setCell (p := ⟨N, 1, none⟩) (Nat.le_refl N) (.int .i64 (fl : Nat))).setCell (p := ⟨N, 2, none⟩) (Nat.le_refl N) (.slice aq j cq)).setCell (p := ⟨N, 3, none⟩) (Nat.le_refl N) (.slice ab (na + i) cb)).setCell (p := ⟨N, 4, none⟩) (Nat.le_refl N) (.slice au nu cu)).setCell (p := ⟨N, 5, none⟩) (Nat.le_refl N) ((.slice a3 ny c3)))
                  exact built_done hid hfl (owns_set6 (unhide HFb).rq (unhide HFb).b.pa (by decide) _ _ _ _ _ _) (owns_set6 (unhide HFb).ra (unhide HFb).b.pa (by decide) _ _ _ _ _ _) (owns_set6 (unhide HFb).ru (unhide HFb).b.pa (by decide) _ _ _ _ _ _) (owns_set6 (unhide HFb).rx (unhide HFb).b.pa (by decide) _ _ _ _ _ _) (unhide HQ) (by omega) (unhide HPb) (by omega) (unhide HPu) (by omega) (unhide HX) b6
              · obtain ⟨⟨x0, x1, x2, x3, x4, x5⟩, _⟩ := cells6 (unhide HFb).b.ma
                obtain ⟨_, o0, o1, o2, o3, o4, o5⟩ := cells6 (unhide HFb).b.pa
                have l1 := blk_lt (unhide HFb).b.ma
                have l2 := blk_lt (unhide HFb).b.pa
                go_wp2_with fail
                obtain ⟨⟨g0, g1, g2, g3, g4, g5⟩, _⟩ := cells6 (store6 (unhide HFb).b.pa (.int .i64 (id : Nat)) (.int .i64 (fl : Nat)) (.slice aq j cq) (.slice ab (na + i) cb) (.slice au nu cu) ((.slice a3 ny c3)))
                refine bodyPost_ret (v := .agg #[.int .i64 (id : Nat), .int .i64 (fl : Nat), .slice aq j cq, .slice ab (na + i) cb, .slice au nu cu, (.slice a3 ny c3)]) (by simp [results, Try.results16, go_sem, g0, g1, g2, g3, g4, g5]) rfl ?_
                have b6 := (((((((unhide HFb).b.be.setCell (p := ⟨N, 0, none⟩) (Nat.le_refl N) (.int .i64 (id : Nat))).setCell (p := ⟨N, 1, none⟩) (Nat.le_refl N) (.int .i64 (fl : Nat))).setCell (p := ⟨N, 2, none⟩) (Nat.le_refl N) (.slice aq j cq)).setCell (p := ⟨N, 3, none⟩) (Nat.le_refl N) (.slice ab (na + i) cb)).setCell (p := ⟨N, 4, none⟩) (Nat.le_refl N) (.slice au nu cu)).setCell (p := ⟨N, 5, none⟩) (Nat.le_refl N) ((.slice a3 ny c3)))
                exact built_done hid hfl (owns_set6 (unhide HFb).rq (unhide HFb).b.pa (by decide) _ _ _ _ _ _) (owns_set6 (unhide HFb).ra (unhide HFb).b.pa (by decide) _ _ _ _ _ _) (owns_set6 (unhide HFb).ru (unhide HFb).b.pa (by decide) _ _ _ _ _ _) (owns_set6 (unhide HFb).rx (unhide HFb).b.pa (by decide) _ _ _ _ _ _) (unhide HQ) (by omega) (unhide HPb) (by omega) (unhide HPu) (by omega) (unhide HX) b6
      · have hne : ((hs : Int) == 1) = false := beq_eq_false_iff_ne.2 (by omega)
        obtain ⟨⟨x0, x1, x2, x3, x4, x5⟩, y0, y1, y2, y3, y4, y5⟩ := cells6 F4.b.ma
        have l1 := blk_lt F4.b.ma
        have HX := hide (part_plain (unhide HPx) (by rw [owns_len F4.rx]; omega) 2)
        have HF5 := hide F4
        clear F4
        go_wp2_with fail
        clear x0 x1 x2 x3 x4 x5 y0 y1 y2 y3 y4 y5 l1
        go_loopg [14] (mo + 1) (fun g vi w' => ∃ (i : Nat) (la' : List RI) (aa' : Option Addr) (ca' : Nat), vi = .int .i64 i ∧ i ≤ mo ∧ g = mo + 1 - i ∧ Hid (Plain la') ∧ Hid (FAt w N a n c K4 id fl (.slice aq j cq) j lq (.slice aa' (na + i) ca') (na + i) la' (.slice au nu cu) nu lu (.slice ax nx cx) nx lx w'))
        case atStart => exact ⟨0, la, aa, ca, rfl, Nat.zero_le _, rfl, HPa, HF5⟩
        case round =>
          obtain ⟨i, lb, ab, cb, rfl, hi, rfl, HPb, HFb⟩ := hrel
          by_cases ci : i < mo
          · by_cases cn : 0 < na
            · obtain ⟨t, ht, hrem⟩ : ∃ t : Nat, t < na ∧ Int.tmod (i : Int) (na : Int) = (t : Int) := ⟨i % na, Nat.mod_lt _ cn, by rw [Int.tmod_eq_emod_of_nonneg (by omega)]; rfl⟩
              have elen := owns_len (unhide HFb).ra
              obtain ⟨g, rfl⟩ : ∃ g, ab = some ⟨g, 0, none⟩ := by
                rcases (unhide HFb).ra.2 with ⟨h0, h1⟩ | ⟨g, cap, cur, h0, _⟩
                · omega
                · simp only [Value.slice.injEq, true_and] at h0
                  exact ⟨g, h0.1⟩
              obtain ⟨x, hx1, hqx, hx2, e0, e1, e2, e3, e4⟩ : ∃ x : RI, (recOk x ∧ x.ty ≠ 41) ∧ ((rcI lb)[t * 5]? = some (.string x.name) ∧ (rcI lb)[t * 5 + 1]? = some (.int .i64 x.ty) ∧ (rcI lb)[t * 5 + 2]? = some (.int .i64 x.cl) ∧ (rcI lb)[t * 5 + 3]? = some (.int .i64 x.ttl) ∧ (rcI lb)[t * 5 + 4]? = some (.string x.data)) ∧ g < wr.heap.size ∧ wr.cell? ⟨g, t * 5, none⟩ = some (.string x.name) ∧ wr.cell? ⟨g, t * 5 + 1, none⟩ = some (.int .i64 x.ty) ∧ wr.cell? ⟨g, t * 5 + 2, none⟩ = some (.int .i64 x.cl) ∧ wr.cell? ⟨g, t * 5 + 3, none⟩ = some (.int .i64 x.ttl) ∧ wr.cell? ⟨g, t * 5 + 4, none⟩ = some (.string x.data) := by
                have hr := fun j u h => (unhide HFb).ra.cells (g := g) rfl j u h
                obtain ⟨q0, q1, q2, q3, q4⟩ := rcI_at lb t (by omega)
                have k0 := hr _ _ q0
                have k1 := hr _ _ q1
                have k2 := hr _ _ q2
                have k3 := hr _ _ q3
                have k4 := hr _ _ q4
                simp only [Addr.add_lit, Nat.zero_add] at k0 k1 k2 k3 k4
                exact ⟨lb[t]'(by omega), unhide HPb _ (List.getElem_mem _), ⟨q0, q1, q2, q3, q4⟩, ((unhide HFb).ra.lt g rfl).2, k0, k1, k2, k3, k4⟩
              have HPn := hide ((unhide HPb).push hx1.1 hx1.2)
              obtain ⟨nm, ty, kl, ttl, dt⟩ := x
              obtain ⟨⟨x0, x1, x2, x3, x4, x5⟩, y0, y1, y2, y3, y4, y5⟩ := cells6 (unhide HFb).b.ma
              have l1 := blk_lt (unhide HFb).b.ma
              have HQX := hide hqx
              clear hx1 elen hqx
              have hn0 : ¬ na = 0 := by omega
              have i1 : (0 : Int) ≤ (t : Int) := by omega
              have i2 : (t : Int) < (na : Int) + (i : Int) := by omega
              have i3 : t < na + i := by omega
              go_wp2_with fail
              refine wp_region_noPanic ?_
              refine wp_region_anyB (fun u => u.cell? ⟨N + 2, 3, none⟩ = some (.slice (some ⟨g, 0, none⟩) (na + i) cb) ∧ u.cell? ⟨g, t * 5, none⟩ = some (.string nm) ∧ u.cell? ⟨g, t * 5 + 1, none⟩ = some (.int .i64 ty) ∧ u.cell? ⟨g, t * 5 + 2, none⟩ = some (.int .i64 kl) ∧ u.cell? ⟨g, t * 5 + 3, none⟩ = some (.int .i64 ttl) ∧ u.cell? ⟨g, t * 5 + 4, none⟩ = some (.string dt)) 12 (by kernel_rfl) ?_
              have hS1 : wr.drew.cell? ⟨N + 2, 3, none⟩ = some (.slice (some ⟨g, 0, none⟩) (na + i) cb) ∧ wr.drew.cell? ⟨g, t * 5, none⟩ = some (.string nm) ∧ wr.drew.cell? ⟨g, t * 5 + 1, none⟩ = some (.int .i64 ty) ∧ wr.drew.cell? ⟨g, t * 5 + 2, none⟩ = some (.int .i64 kl) ∧ wr.drew.cell? ⟨g, t * 5 + 3, none⟩ = some (.int .i64 ttl) ∧ wr.drew.cell? ⟨g, t * 5 + 4, none⟩ = some (.string dt) := ⟨x3, e0, e1, e2, e3, e4⟩
              refine anyB_take (i := 0) (v := ?_) rfl rfl (by kernel_rfl) (by kernel_rfl) (by kernel_rfl) (by kernel_rfl) (fun _ _ _ h => h) (Or.inl ⟨by rfl, ?_⟩) hS1 ?_
              rotate_left
              · intro u hu
                obtain ⟨u0, u1, u2, u3, u4, u5⟩ := hu
                go_simp
                try with_reducible rfl
              try simp only [Act.put]
              refine anyB_take (i := 1) (v := ?_) rfl rfl (by kernel_rfl) (by kernel_rfl) (by kernel_rfl) (by kernel_rfl) (fun _ _ _ h => h) (Or.inl ⟨by rfl, ?_⟩) hS1 ?_
              rotate_left
              · intro u hu
                obtain ⟨u0, u1, u2, u3, u4, u5⟩ := hu
                go_simp
                try with_reducible rfl
              try simp only [Act.put]
              refine anyB_take (i := 2) (v := ?_) rfl rfl (by kernel_rfl) (by kernel_rfl) (by kernel_rfl) (by kernel_rfl) (fun _ _ _ h => h) (Or.inl ⟨by rfl, ?_⟩) hS1 ?_
              rotate_left
              · intro u hu
                obtain ⟨u0, u1, u2, u3, u4, u5⟩ := hu
                go_simp
                try with_reducible rfl
              try simp only [Act.put]
              refine anyB_take (i := 3) (v := ?_) rfl rfl (by kernel_rfl) (by kernel_rfl) (by kernel_rfl) (by kernel_rfl) (fun _ _ _ h => h) (Or.inl ⟨by rfl, ?_⟩) hS1 ?_
              rotate_left
              · intro u hu
                obtain ⟨u0, u1, u2, u3, u4, u5⟩ := hu
                go_simp
                try with_reducible rfl
              try simp only [Act.put]
              refine anyB_take (i := 4) (v := ?_) rfl rfl (by kernel_rfl) (by kernel_rfl) (by kernel_rfl) (by kernel_rfl) (fun _ _ _ h => h) (Or.inl ⟨by rfl, ?_⟩) hS1 ?_
              rotate_left
              · intro u hu
                obtain ⟨u0, u1, u2, u3, u4, u5⟩ := hu
                go_simp
                try with_reducible rfl
              try simp only [Act.put]
              refine anyB_take (i := 5) (v := ?_) rfl rfl (by kernel_rfl) (by kernel_rfl) (by kernel_rfl) (by kernel_rfl) (fun _ _ _ h => h) (Or.inl ⟨by rfl, ?_⟩) hS1 ?_
              rotate_left
              · intro u hu
                obtain ⟨u0, u1, u2, u3, u4, u5⟩ := hu
                go_simp
                try with_reducible rfl
              try simp only [Act.put]
              refine anyB_take (i := 6) (v := ?_) rfl rfl (by kernel_rfl) (by kernel_rfl) (by kernel_rfl) (by kernel_rfl) (fun _ _ _ h => h) (Or.inl ⟨by rfl, ?_⟩) hS1 ?_
              rotate_left
              · intro u hu
                obtain ⟨u0, u1, u2, u3, u4, u5⟩ := hu
                go_simp
                try with_reducible rfl
              try simp only [Act.put]
              refine anyB_take (i := 7) (v := ?_) rfl rfl (by kernel_rfl) (by kernel_rfl) (by kernel_rfl) (by kernel_rfl) (fun _ _ _ h => h) (Or.inl ⟨by rfl, ?_⟩) hS1 ?_
              rotate_left
              · intro u hu
                obtain ⟨u0, u1, u2, u3, u4, u5⟩ := hu
                go_simp
                try with_reducible rfl
              try simp only [Act.put]
              refine anyB_take (i := 8) (v := ?_) rfl rfl (by kernel_rfl) (by kernel_rfl) (by kernel_rfl) (by kernel_rfl) (fun _ _ _ h => h) (Or.inl ⟨by rfl, ?_⟩) hS1 ?_
              rotate_left
              · intro u hu
                obtain ⟨u0, u1, u2, u3, u4, u5⟩ := hu
                go_simp
                try with_reducible rfl
              try simp only [Act.put]
              refine anyB_one (i := 9) rfl (by kernel_rfl) (fun K hK => ?_)
              go_simp
              have hA : Below wr.heap.size wr (wr.alloc (.cells #[.string nm, .int .i64 ty, .int .i64 kl, .int .i64 ttl, .string dt] 86)).drew := below_drewK ((Below.refl wr.heap.size wr).alloc (Nat.le_refl _) _) 1
              have hS2 := And.intro ((hA.cell (p := ⟨N + 2, 3, none⟩) l1).trans hS1.1) (And.intro ((hA.cell (p := ⟨g, t * 5, none⟩) hx2).trans hS1.2.1) (And.intro ((hA.cell (p := ⟨g, t * 5 + 1, none⟩) hx2).trans hS1.2.2.1) (And.intro ((hA.cell (p := ⟨g, t * 5 + 2, none⟩) hx2).trans hS1.2.2.2.1) (And.intro ((hA.cell (p := ⟨g, t * 5 + 3, none⟩) hx2).trans hS1.2.2.2.2.1) ((hA.cell (p := ⟨g, t * 5 + 4, none⟩) hx2).trans hS1.2.2.2.2.2)))))
              refine hK _ _ (fun _ => hS2) ?_
              clear hK K
              try simp only [Act.put]
              have FA := (unhide HFb).below hA
              have HFA := hide FA
              refine anyB_one (i := 10) rfl (by kernel_rfl) (fun K hK => ?_)
              rw [if_pos (by kernel_rfl)]
              refine oper_append_row _ _ 23 23 rfl N 86 i0 (.agg #[.string ⟨#[]⟩, .int .i64 0, .int .i64 0, .int .i64 0, .string ⟨#[]⟩]) 5 56 Try.underlying23 (unhide Hi) (unhide Hz0) (unhide Hz1) (unhide Hz2) rfl g (na + i) cb (rcI lb) (by rfl) (unhide HFA).ra (.slice (some ⟨wr.heap.size, 0, none⟩) 1 1) 1 [.string nm, .int .i64 ty, .int .i64 kl, .int .i64 ttl, .string dt] (by rfl) (Src.ofSlice _ Try.underlying23 ⟨wr.heap.size, 0, none⟩ 1 1 _ rfl (cell_five_new _ _ _ _ _ _ _ _ rfl) (fun x hx => by simp at hx; rcases hx with rfl | rfl | rfl | rfl | rfl <;> rfl)) (by unfold maxLen; omega) (by omega) (by have := FA.b.lt; omega) ?_
              intro a1 c1 w9 hown9 hgrow9 hat9 hold9
              have FN := FA.more (v := .slice a1 (na + i + 1) c1) (m := na + i + 1) (l := lb ++ [⟨nm, ty, kl, ttl, dt⟩]) (by rw [rcI_push]; exact hown9) hgrow9 hat9
              have B9 := FA.b.app FA.ra (Nat.le_refl _) hgrow9 (by decide) (by decide) (by decide)
              obtain ⟨⟨n0, n1, n2, n3, n4, n5⟩, p0, p1, p2, p3, p4, p5⟩ := cells6 B9.ma
              have l9 := blk_lt B9.ma
              have hS9 : w9.cell? ⟨N + 2, 3, none⟩ = some (.slice (some ⟨g, 0, none⟩) (na + i) cb) ∧ w9.cell? ⟨g, t * 5, none⟩ = some (.string nm) ∧ w9.cell? ⟨g, t * 5 + 1, none⟩ = some (.int .i64 ty) ∧ w9.cell? ⟨g, t * 5 + 2, none⟩ = some (.int .i64 kl) ∧ w9.cell? ⟨g, t * 5 + 3, none⟩ = some (.int .i64 ttl) ∧ w9.cell? ⟨g, t * 5 + 4, none⟩ = some (.string dt) := by
                obtain ⟨q0, q1, q2, q3, q4⟩ := unhide HQX
                exact ⟨n3, hold9 _ _ q0, hold9 _ _ q1, hold9 _ _ q2, hold9 _ _ q3, hold9 _ _ q4⟩
              refine hK _ _ (fun _ => hS9) ?_
              clear hK K hold9
              try simp only [Act.put]
              refine anyB_one (i := 11) rfl (by kernel_rfl) (fun K hK => ?_)
              go_simp
              refine hK _ _ (fun _ => hS9) ?_
              clear hK K
              try simp only [Act.put]
              refine anyB_one (i := 12) rfl (by kernel_rfl) (fun K hK => ?_)
              go_simp
              refine hK _ _ (fun h => absurd rfl h) (anyB_done (by kernel_rfl) ?_ _)
              clear hK K
              refine NoPanic.normal ?_
              have HFN := hide FN
              clear FN FA B9
              go_wp2_with fail
              go_roundg (mo + 1 - (i + 1))
              case measure => omega
              case rel => exact ⟨i + 1, _, a1, c1, by go_num, by omega, rfl, HPn, HFN⟩
            · obtain ⟨⟨x0, x1, x2, x3, x4, x5⟩, _⟩ := cells6 (unhide HFb).b.ma
              obtain ⟨_, o0, o1, o2, o3, o4, o5⟩ := cells6 (unhide HFb).b.pa
              have l1 := blk_lt (unhide HFb).b.ma
              have l2 := blk_lt (unhide HFb).b.pa
              go_wp2_with fail
              obtain ⟨⟨g0, g1, g2, g3, g4, g5⟩, _⟩ := cells6 (store6 (unhide HFb).b.pa (.int .i64 (id : Nat)) (.int .i64 (fl : Nat)) (.slice aq j cq) (.slice ab (na + i) cb) (.slice au nu cu) ((.slice ax nx cx)))
              refine bodyPost_ret (v := .agg #[.int .i64 (id : Nat), .int .i64 (fl : Nat), .slice aq j cq, .slice ab (na + i) cb, .slice au nu cu, (.slice ax nx cx)]) (by simp [results, Try.results16, go_sem, g0, g1, g2, g3, g4, g5]) rfl ?_
              have b6 := (((((((unhide HFb).b.be.setCell (p := ⟨N, 0, none⟩) (Nat.le_refl N) (.int .i64 (id : Nat))).setCell (p := ⟨N, 1, none⟩) (Nat.le_refl N) (.int .i64 (fl : Nat))).setCell (p := ⟨N, 2, none⟩) (Nat.le_refl N) (.slice aq j cq)).setCell (p := ⟨N, 3, none⟩) (Nat.le_refl N) (.slice ab (na + i) cb)).setCell (p := ⟨N, 4, none⟩) (Nat.le_refl N) (.slice au nu cu)).setCell (p := ⟨N, 5, none⟩) (Nat.le_refl N) ((.slice ax nx cx)))
              exact built_done hid hfl (owns_set6 (unhide HFb).rq (unhide HFb).b.pa (by decide) _ _ _ _ _ _) (owns_set6 (unhide HFb).ra (unhide HFb).b.pa (by decide) _ _ _ _ _ _) (owns_set6 (unhide HFb).ru (unhide HFb).b.pa (by decide) _ _ _ _ _ _) (owns_set6 (unhide HFb).rx (unhide HFb).b.pa (by decide) _ _ _ _ _ _) (unhide HQ) (by omega) (unhide HPb) (by omega) (unhide HPu) (by omega) (unhide HX) b6
          · obtain ⟨⟨x0, x1, x2, x3, x4, x5⟩, _⟩ := cells6 (unhide HFb).b.ma
            obtain ⟨_, o0, o1, o2, o3, o4, o5⟩ := cells6 (unhide HFb).b.pa
            have l1 := blk_lt (unhide HFb).b.ma
            have l2 := blk_lt (unhide HFb).b.pa
            go_wp2_with fail
            obtain ⟨⟨g0, g1, g2, g3, g4, g5⟩, _⟩ := cells6 (store6 (unhide HFb).b.pa (.int .i64 (id : Nat)) (.int .i64 (fl : Nat)) (.slice aq j cq) (.slice ab (na + i) cb) (.slice au nu cu) ((.slice ax nx cx)))
            refine bodyPost_ret (v := .agg #[.int .i64 (id : Nat), .int .i64 (fl : Nat), .slice aq j cq, .slice ab (na + i) cb, .slice au nu cu, (.slice ax nx cx)]) (by simp [results, Try.results16, go_sem, g0, g1, g2, g3, g4, g5]) rfl ?_
            have b6 := (((((((unhide HFb).b.be.setCell (p := ⟨N, 0, none⟩) (Nat.le_refl N) (.int .i64 (id : Nat))).setCell (p := ⟨N, 1, none⟩) (Nat.le_refl N) (.int .i64 (fl : Nat))).setCell (p := ⟨N, 2, none⟩) (Nat.le_refl N) (.slice aq j cq)).setCell (p := ⟨N, 3, none⟩) (Nat.le_refl N) (.slice ab (na + i) cb)).setCell (p := ⟨N, 4, none⟩) (Nat.le_refl N) (.slice au nu cu)).setCell (p := ⟨N, 5, none⟩) (Nat.le_refl N) ((.slice ax nx cx)))
            exact built_done hid hfl (owns_set6 (unhide HFb).rq (unhide HFb).b.pa (by decide) _ _ _ _ _ _) (owns_set6 (unhide HFb).ra (unhide HFb).b.pa (by decide) _ _ _ _ _ _) (owns_set6 (unhide HFb).ru (unhide HFb).b.pa (by decide) _ _ _ _ _ _) (owns_set6 (unhide HFb).rx (unhide HFb).b.pa (by decide) _ _ _ _ _ _) (unhide HQ) (by omega) (unhide HPb) (by omega) (unhide HPu) (by omega) (unhide HX) b6

end Go.Proofs.Ytdhobdmhnocbgaa
