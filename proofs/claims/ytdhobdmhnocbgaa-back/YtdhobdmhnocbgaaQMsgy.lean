/-
  The plain side of what is known while a message is written: each tail that is known is read where it is known.
-/
import Derived.Test.YtdhobdmhnocbgaaQMsgx
namespace Go.Proofs.Ytdhobdmhnocbgaa
open Zr

/-- What is known stays known while data are written; the two bytes of their length are open. -/
theorem sd_inv (B : ByteArray) (K : List (ByteArray × Nat)) (d : ByteArray) (hI : Inv (fun _ => False) B K) (z : ByteArray) : ∀ j, (∀ i, i < j → ∃ x, nameAt d (sdTo K d (B ++ z).size i).2.2 = .ok (x, x.size)) →
    Inv (fun i => B.size ≤ i ∧ i < B.size + z.size) (B ++ z ++ (sdTo K d (B ++ z).size j).1) (sdTo K d (B ++ z).size j).2.1 := by
  intro j
  induction j with
  | zero =>
    intro _
    have h1 := hI.open z
    have e : B ++ z ++ (⟨#[]⟩ : ByteArray) = B ++ z := by apply ByteArray.ext; simp [ByteArray.data_append]
    show Inv _ (B ++ z ++ (⟨#[]⟩ : ByteArray)) K
    rw [e]
    exact h1
  | succ j ih =>
    intro h
    obtain ⟨x, hx⟩ := h j (by omega)
    have h1 := ih (fun i hi => h i (by omega))
    rw [sd_next K d _ j x x.size hx]
    have hw := name_whole d _ x _ hx
    obtain ⟨t1, t2⟩ := tl_ok hw
    have h2 := (short_read _ _ _ x (fun i hi => by rw [ByteArray.size_append, ByteArray.size_append]; omega) h1 t2 t1).1
    have e : (B ++ z ++ (sdTo K d (B ++ z).size j).1).size = (B ++ z).size + (sdTo K d (B ++ z).size j).1.size := ByteArray.size_append
    rw [append_assoc', e] at h2
    exact h2

theorem bt_mid (B z y S : ByteArray) (hz : z.size = y.size) (i : Nat) (h : ¬ (B.size ≤ i ∧ i < B.size + z.size)) : bt (B ++ y ++ S) i = bt (B ++ z ++ S) i := by
  by_cases c : i < B.size
  · rw [bt_append, if_pos (by rw [ByteArray.size_append]; omega), bt_append, if_pos c, bt_append, if_pos (by rw [ByteArray.size_append]; omega), bt_append, if_pos c]
  · rw [bt_append, if_neg (by rw [ByteArray.size_append]; omega), bt_append, if_neg (by rw [ByteArray.size_append]; omega), ByteArray.size_append, ByteArray.size_append, hz]

theorem data_inv (B : ByteArray) (K : List (ByteArray × Nat)) (d : ByteArray) (t : Nat) (hI : Inv (fun _ => False) B K) (hd : wellD t d) (z y : ByteArray) (hz : z.size = y.size) :
    Inv (fun _ => False) (B ++ y ++ (sdata K d t (B ++ z).size).1) (sdata K d t (B ++ z).size).2 := by
  have h1 := sd_inv B K d hI z (namesOf t) (wellD_flatNames K d t _ hd)
  have h2 := h1.append (d.extract (sdTo K d (B ++ z).size (namesOf t)).2.2 d.size)
  rw [append_assoc'] at h2
  refine h2.shut ?_ (fun i _ hq => ?_)
  · show (B ++ z ++ (sdata K d t (B ++ z).size).1).size = (B ++ y ++ (sdata K d t (B ++ z).size).1).size
    generalize (sdata K d t (B ++ z).size).1 = A
    simp only [ByteArray.size_append]
    omega
  · exact bt_mid B z y _ hz i hq

/-- What is known is read where it is known. -/
def Known (st : St) : Prop := Inv (fun _ => False) st.1 st.2

theorem wname_known {st : St} (h : Known st) {s : ByteArray} (hs : wholeB s = true) : Known (wname st s) := by
  obtain ⟨t1, t2⟩ := tl_ok hs
  exact (short_read _ _ _ s (fun i hi => hi.elim) h t2 t1).1
theorem wput_known {st : St} (h : Known st) (s : ByteArray) : Known (wput st s) := Inv.append h s
theorem wque_known {st : St} (h : Known st) {q : QI} (hq : queOk q) : Known (wque st q.nat) :=
  wput_known (wput_known (wname_known h hq.1) _) _
theorem whead_known {st : St} (h : Known st) {x : RI} (hx : recOk x) : Known (whead st x.nat) :=
  wput_known (wput_known (wput_known (wput_known (wname_known h hx.1) _) _) _) _
theorem wrec_known {st : St} (h : Known st) {x : RI} (hx : recOk x) : Known (wrec st x.nat) := by
  have h1 := whead_known h hx
  obtain ⟨_, _, _, _, _, _, n7⟩ := recOk_nat hx
  have h2 := data_inv (whead st x.nat).1 (whead st x.nat).2 x.nat.data x.nat.ty h1 n7 (wd 0) (wd (sdata (whead st x.nat).2 x.nat.data x.nat.ty ((whead st x.nat).1.size + 2)).1.size) rfl
  have e : ((whead st x.nat).1 ++ wd 0).size = (whead st x.nat).1.size + 2 := by rw [ByteArray.size_append, wd_size]
  rw [e] at h2
  exact h2
theorem stepR_known {st : St} (h : Known st) {x : RI} (hx : recOk x) : Known (stepR st x.nat) := by
  unfold stepR
  split
  · exact h
  · exact wrec_known h hx
theorem stepQ_known {st : St} (h : Known st) {x : QI} (hx : queOk x) : Known (stepQ st x.nat) := by
  unfold stepQ
  split
  · exact h
  · exact wque_known h hx
theorem foldR_known {st : St} (h : Known st) : ∀ (l : List RI), (∀ x, x ∈ l → recOk x) → Known ((l.map RI.nat).foldl stepR st) := by
  intro l
  induction l generalizing st with
  | nil => intro _; exact h
  | cons x l ih => intro hl; exact ih (stepR_known h (hl x (by simp))) (fun y hy => hl y (List.mem_cons_of_mem _ hy))
theorem foldQ_known {st : St} (h : Known st) : ∀ (l : List QI), (∀ x, x ∈ l → queOk x) → Known ((l.map QI.nat).foldl stepQ st) := by
  intro l
  induction l generalizing st with
  | nil => intro _; exact h
  | cons x l ih => intro hl; exact ih (stepQ_known h (hl x (by simp))) (fun y hy => hl y (List.mem_cons_of_mem _ hy))

end Go.Proofs.Ytdhobdmhnocbgaa
