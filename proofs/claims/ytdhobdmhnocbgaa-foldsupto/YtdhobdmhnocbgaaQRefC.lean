/-
  Walks over the document's own answer: questions, records.
-/
import Derived.Test.YtdhobdmhnocbgaaQRefB
import Derived.Test.YtdhobdmhnocbgaaQMsgW
namespace Go.Proofs.Ytdhobdmhnocbgaa
open Go.RowKit Zr

def qVal (q : Qs) : Value := .agg #[.string q.name, .int .i64 q.ty, .int .i64 q.cl]
def rVal (x : Rc) : Value := .agg #[.string x.name, .int .i64 x.ty, .int .i64 x.cl, .int .i64 x.ttl, .string x.data]

def RqPost (res : Except Int (Qs × Nat)) (e : Ending) : Prop :=
  match res with
  | .ok (q, p) => e = .returned (.tuple #[.agg #[.string q.name, .int .i64 q.ty, .int .i64 q.cl], .int .i64 p, .int .i64 0])
  | .error x => x ≠ 0 ∧ e = .returned (.tuple #[.agg #[.string ⟨#[]⟩, .int .i64 0, .int .i64 0], .int .i64 0, .int .i64 x])

set_option maxRecDepth 100000 in
set_option maxHeartbeats 1000000 in
theorem refQuestion_any (b : ByteArray) (p : Int) (w : World) (hb : b.size ≤ 65535) (h0 : 0 ≤ p) (h1 : p ≤ b.size) :
    Calls Try.prog 75 #[.string b, .int .i64 p] w fun e w' => RqPost (questionAt b p.toNat) e ∧ Below w.heap.size w w' := by
  obtain ⟨p, rfl⟩ := Int.eq_ofNat_of_zero_le h0
  rw [Int.toNat_natCast]
  have hQ : questionAt b p = questionAt b p := rfl
  conv at hQ => rhs; unfold questionAt
  cases hx : nameAt b p with
  | error x =>
    rw [hx] at hQ
    simp only at hQ
    have HQ := hide hQ
    have Hx := hide hx
    clear hQ hx
    go_enter Try.func75, Try.ntmps75
    go_wp2_with fail
    refine (refName_err b p _ x (big hb) (by omega) (by omega) (by rw [Int.toNat_natCast]; exact Hx)).mono ?_
    rintro e w' ⟨⟨hx0, s', t', rfl⟩, rfl⟩
    have hx1 : (x != 0) = true := by rw [bne_iff_ne]; exact hx0
    have HX := hide hx0
    clear hx0
    go_wp2_with fail
    refine bodyPost_ret (v := .tuple #[.agg #[.string ⟨#[]⟩, .int .i64 0, .int .i64 0], .int .i64 0, .int .i64 x]) (by simp [results, Try.results75, go_sem]) rfl ⟨?_, (Below.refl _ _).alloc (Nat.le_refl _) _⟩
    rw [unhide HQ]
    exact ⟨unhide HX, rfl⟩
  | ok z =>
    obtain ⟨s, t⟩ := z
    obtain ⟨g1, g2, g3⟩ := nameAt_bounds b p s t hx
    rw [hx] at hQ
    simp only at hQ
    have Hx := hide hx
    clear hx
    have e1 : ((p : Int) + t).toNat = p + t := by omega
    have e2 : ((p : Int) + t + 2).toNat = p + t + 2 := by omega
    have l1 := num_lt2 b (p + t)
    have l2 := num_lt2 b (p + t + 2)
    by_cases c : b.size < p + t + 4
    · rw [if_pos c] at hQ
      have HQ := hide hQ
      clear hQ
      by_cases c2 : p + t + 2 ≤ b.size
      · go_enter Try.func75, Try.ntmps75
        go_wp2_with fail
        refine (refName_ok b p _ s t (big hb) (by omega) (by omega) (by rw [Int.toNat_natCast]; exact Hx)).mono ?_
        rintro e w' ⟨rfl, rfl⟩
        go_wp2_with fail
        refine (refNumber_yes b (p + t) 2 _ hb (by omega) (by omega) (by omega) (by omega)).mono ?_
        rintro e w' ⟨rfl, rfl⟩
        go_wp2_with fail
        refine (refNumber_no b (p + t + 2) 2 _ hb (by omega) (by omega) (by omega) (by omega) (by omega)).mono ?_
        rintro e w' ⟨rfl, rfl⟩
        go_wp2_with fail
        refine bodyPost_ret (v := .tuple #[.agg #[.string ⟨#[]⟩, .int .i64 0, .int .i64 0], .int .i64 0, .int .i64 2]) (by simp [results, Try.results75, go_sem]) rfl ⟨?_, (Below.refl _ _).alloc (Nat.le_refl _) _⟩
        rw [unhide HQ]
        exact ⟨by decide, rfl⟩
      · go_enter Try.func75, Try.ntmps75
        go_wp2_with fail
        refine (refName_ok b p _ s t (big hb) (by omega) (by omega) (by rw [Int.toNat_natCast]; exact Hx)).mono ?_
        rintro e w' ⟨rfl, rfl⟩
        go_wp2_with fail
        refine (refNumber_no b (p + t) 2 _ hb (by omega) (by omega) (by omega) (by omega) (by omega)).mono ?_
        rintro e w' ⟨rfl, rfl⟩
        go_wp2_with fail
        refine (refNumber_no b (p + t + 2) 2 _ hb (by omega) (by omega) (by omega) (by omega) (by omega)).mono ?_
        rintro e w' ⟨rfl, rfl⟩
        go_wp2_with fail
        refine bodyPost_ret (v := .tuple #[.agg #[.string ⟨#[]⟩, .int .i64 0, .int .i64 0], .int .i64 0, .int .i64 2]) (by simp [results, Try.results75, go_sem]) rfl ⟨?_, (Below.refl _ _).alloc (Nat.le_refl _) _⟩
        rw [unhide HQ]
        exact ⟨by decide, rfl⟩
    · rw [if_neg c] at hQ
      have HQ := hide hQ
      clear hQ
      go_enter Try.func75, Try.ntmps75
      go_wp2_with fail
      refine (refName_ok b p _ s t (big hb) (by omega) (by omega) (by rw [Int.toNat_natCast]; exact Hx)).mono ?_
      rintro e w' ⟨rfl, rfl⟩
      go_wp2_with fail
      refine (refNumber_yes b (p + t) 2 _ hb (by omega) (by omega) (by omega) (by omega)).mono ?_
      rw [e1, show (2 : Int).toNat = 2 from rfl]
      rintro e w' ⟨rfl, rfl⟩
      go_wp2_with fail
      refine (refNumber_yes b (p + t + 2) 2 _ hb (by omega) (by omega) (by omega) (by omega)).mono ?_
      rw [e2, show (2 : Int).toNat = 2 from rfl]
      rintro e w' ⟨rfl, rfl⟩
      go_wp2_with fail
      refine bodyPost_ret (v := .tuple #[.agg #[.string s, .int .i64 (num b (p + t) 2), .int .i64 (num b (p + t + 2) 2)], .int .i64 ((p : Int) + t + 4), .int .i64 0]) (by simp [results, Try.results75, go_sem]) rfl ⟨?_, (Below.refl _ _).alloc (Nat.le_refl _) _⟩
      rw [unhide HQ]
      rfl

def RrPost (res : Except Int (Rc × Nat)) (e : Ending) : Prop :=
  match res with
  | .ok (x, p) => e = .returned (.tuple #[.agg #[.string x.name, .int .i64 x.ty, .int .i64 x.cl, .int .i64 x.ttl, .string x.data], .int .i64 p, .int .i64 0])
  | .error x => x ≠ 0 ∧ e = .returned (.tuple #[.agg #[.string ⟨#[]⟩, .int .i64 0, .int .i64 0, .int .i64 0, .string ⟨#[]⟩], .int .i64 0, .int .i64 x])

set_option maxRecDepth 100000 in
set_option maxHeartbeats 2000000 in
theorem refRecord_any (b : ByteArray) (p : Int) (w : World) (hb : b.size ≤ 65535) (h0 : 0 ≤ p) (h1 : p ≤ b.size) :
    Calls Try.prog 76 #[.string b, .int .i64 p] w fun e w' => RrPost (recordAt b p.toNat) e ∧ Below w.heap.size w w' := by
  obtain ⟨p, rfl⟩ := Int.eq_ofNat_of_zero_le h0
  rw [Int.toNat_natCast]
  have hQ : recordAt b p = recordAt b p := rfl
  conv at hQ => rhs; unfold recordAt
  cases hx : nameAt b p with
  | error x =>
    rw [hx] at hQ
    simp only at hQ
    have HQ := hide hQ
    have Hx := hide hx
    clear hQ hx
    go_enter Try.func76, Try.ntmps76
    go_wp2_with fail
    refine (refName_err b p _ x (big hb) (by omega) (by omega) (by rw [Int.toNat_natCast]; exact Hx)).mono ?_
    rintro e w' ⟨⟨hx0, s', t', rfl⟩, rfl⟩
    have hx1 : (x != 0) = true := by rw [bne_iff_ne]; exact hx0
    have HX := hide hx0
    clear hx0
    go_wp2_with fail
    refine bodyPost_ret (v := .tuple #[.agg #[.string ⟨#[]⟩, .int .i64 0, .int .i64 0, .int .i64 0, .string ⟨#[]⟩], .int .i64 0, .int .i64 x]) (by simp [results, Try.results76, go_sem]) rfl ⟨?_, (Below.refl _ _).alloc (Nat.le_refl _) _⟩
    rw [unhide HQ]
    exact ⟨unhide HX, rfl⟩
  | ok z =>
    obtain ⟨s, t⟩ := z
    obtain ⟨g1, g2, g3⟩ := nameAt_bounds b p s t hx
    rw [hx] at hQ
    simp only at hQ
    have Hx := hide hx
    clear hx
    have e1 : ((p : Int) + t).toNat = p + t := by omega
    have e2 : ((p : Int) + t + 2).toNat = p + t + 2 := by omega
    have e4 : ((p : Int) + t + 4).toNat = p + t + 4 := by omega
    have e8 : ((p : Int) + t + 8).toNat = p + t + 8 := by omega
    have e10 : ((p : Int) + t + 10).toNat = p + t + 10 := by omega
    have l0 := num_lt2 b (p + t)
    have l2 := num_lt2 b (p + t + 2)
    have l4 := num_lt4 b (p + t + 4) 4 (by omega)
    have l8 := num_lt2 b (p + t + 8)
    by_cases c : b.size < p + t + 10
    · rw [if_pos c] at hQ
      have HQ := hide hQ
      clear hQ
      go_enter Try.func76, Try.ntmps76
      go_wp2_with fail
      refine (refName_ok b p _ s t (big hb) (by omega) (by omega) (by rw [Int.toNat_natCast]; exact Hx)).mono ?_
      rintro e w' ⟨rfl, rfl⟩
      go_wp2_with fail
      refine (refNumber_no b (p + t + 8) 2 _ hb (by omega) (by omega) (by omega) (by omega) (by omega)).mono ?_
      rintro e w' ⟨rfl, rfl⟩
      go_wp2_with fail
      refine bodyPost_ret (v := .tuple #[.agg #[.string ⟨#[]⟩, .int .i64 0, .int .i64 0, .int .i64 0, .string ⟨#[]⟩], .int .i64 0, .int .i64 2]) (by simp [results, Try.results76, go_sem]) rfl ⟨?_, (Below.refl _ _).alloc (Nat.le_refl _) _⟩
      rw [unhide HQ]
      exact ⟨by decide, rfl⟩
    rw [if_neg c] at hQ
    by_cases c' : b.size < p + t + 10 + num b (p + t + 8) 2
    · rw [if_pos c'] at hQ
      have HQ := hide hQ
      clear hQ
      go_enter Try.func76, Try.ntmps76
      go_wp2_with fail
      refine (refName_ok b p _ s t (big hb) (by omega) (by omega) (by rw [Int.toNat_natCast]; exact Hx)).mono ?_
      rintro e w' ⟨rfl, rfl⟩
      go_wp2_with fail
      refine (refNumber_yes b (p + t + 8) 2 _ hb (by omega) (by omega) (by omega) (by omega)).mono ?_
      rw [e8, show (2 : Int).toNat = 2 from rfl]
      rintro e w' ⟨rfl, rfl⟩
      go_wp2_with fail
      refine bodyPost_ret (v := .tuple #[.agg #[.string ⟨#[]⟩, .int .i64 0, .int .i64 0, .int .i64 0, .string ⟨#[]⟩], .int .i64 0, .int .i64 2]) (by simp [results, Try.results76, go_sem]) rfl ⟨?_, (Below.refl _ _).alloc (Nat.le_refl _) _⟩
      rw [unhide HQ]
      exact ⟨by decide, rfl⟩
    rw [if_neg c'] at hQ
    have key := fun w => refData_any b ((p : Int) + t + 10) (num b (p + t + 8) 2) (num b (p + t) 2) w hb (by omega) (by omega) (by omega) (by omega)
    simp only [e10, Int.toNat_natCast] at key
    have Key := hide key
    clear key
    cases hd : dataP b (p + t + 10) (num b (p + t + 8) 2) (num b (p + t) 2) with
    | none =>
      rw [hd] at hQ Key
      simp only at hQ
      have HQ := hide hQ
      clear hQ hd
      go_enter Try.func76, Try.ntmps76
      go_wp2_with fail
      refine (refName_ok b p _ s t (big hb) (by omega) (by omega) (by rw [Int.toNat_natCast]; exact Hx)).mono ?_
      rintro e w' ⟨rfl, rfl⟩
      go_wp2_with fail
      refine (refNumber_yes b (p + t + 8) 2 _ hb (by omega) (by omega) (by omega) (by omega)).mono ?_
      rw [e8, show (2 : Int).toNat = 2 from rfl]
      rintro e w' ⟨rfl, rfl⟩
      go_wp2_with fail
      refine (refNumber_yes b (p + t) 2 _ hb (by omega) (by omega) (by omega) (by omega)).mono ?_
      rw [e1, show (2 : Int).toNat = 2 from rfl]
      rintro e w' ⟨rfl, rfl⟩
      go_wp2_with fail
      refine (refNumber_yes b (p + t + 2) 2 _ hb (by omega) (by omega) (by omega) (by omega)).mono ?_
      rw [e2, show (2 : Int).toNat = 2 from rfl]
      rintro e w' ⟨rfl, rfl⟩
      go_wp2_with fail
      refine (refNumber_yes b (p + t + 4) 4 _ hb (by omega) (by omega) (by omega) (by omega)).mono ?_
      rw [e4, show (4 : Int).toNat = 4 from rfl]
      rintro e w' ⟨rfl, rfl⟩
      go_wp2_with fail
      refine (unhide Key _).mono ?_
      rintro e w' ⟨⟨s', rfl⟩, rfl⟩
      go_wp2_with fail
      refine bodyPost_ret (v := .tuple #[.agg #[.string ⟨#[]⟩, .int .i64 0, .int .i64 0, .int .i64 0, .string ⟨#[]⟩], .int .i64 0, .int .i64 4]) (by simp [results, Try.results76, go_sem]) rfl ⟨?_, (Below.refl _ _).alloc (Nat.le_refl _) _⟩
      rw [unhide HQ]
      exact ⟨by decide, rfl⟩
    | some d =>
      rw [hd] at hQ Key
      simp only at hQ
      have HQ := hide hQ
      clear hQ hd
      go_enter Try.func76, Try.ntmps76
      go_wp2_with fail
      refine (refName_ok b p _ s t (big hb) (by omega) (by omega) (by rw [Int.toNat_natCast]; exact Hx)).mono ?_
      rintro e w' ⟨rfl, rfl⟩
      go_wp2_with fail
      refine (refNumber_yes b (p + t + 8) 2 _ hb (by omega) (by omega) (by omega) (by omega)).mono ?_
      rw [e8, show (2 : Int).toNat = 2 from rfl]
      rintro e w' ⟨rfl, rfl⟩
      go_wp2_with fail
      refine (refNumber_yes b (p + t) 2 _ hb (by omega) (by omega) (by omega) (by omega)).mono ?_
      rw [e1, show (2 : Int).toNat = 2 from rfl]
      rintro e w' ⟨rfl, rfl⟩
      go_wp2_with fail
      refine (refNumber_yes b (p + t + 2) 2 _ hb (by omega) (by omega) (by omega) (by omega)).mono ?_
      rw [e2, show (2 : Int).toNat = 2 from rfl]
      rintro e w' ⟨rfl, rfl⟩
      go_wp2_with fail
      refine (refNumber_yes b (p + t + 4) 4 _ hb (by omega) (by omega) (by omega) (by omega)).mono ?_
      rw [e4, show (4 : Int).toNat = 4 from rfl]
      rintro e w' ⟨rfl, rfl⟩
      go_wp2_with fail
      refine (unhide Key _).mono ?_
      rintro e w' ⟨hp, rfl⟩
      have hp' : e = _ := hp
      subst hp'
      clear hp
      go_wp2_with fail
      refine bodyPost_ret (v := .tuple #[.agg #[.string s, .int .i64 (num b (p + t) 2), .int .i64 (num b (p + t + 2) 2), .int .i64 (num b (p + t + 4) 4), .string d], .int .i64 ((p : Int) + t + 10 + num b (p + t + 8) 2), .int .i64 0]) (by simp [results, Try.results76, go_sem]) rfl ⟨?_, (Below.refl _ _).alloc (Nat.le_refl _) _⟩
      rw [unhide HQ]
      rfl

end Go.Proofs.Ytdhobdmhnocbgaa
