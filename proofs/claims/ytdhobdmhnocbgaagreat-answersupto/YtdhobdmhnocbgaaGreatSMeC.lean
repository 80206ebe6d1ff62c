/-
  Plain: news, which of them count, the zone's records, as the document's own answer finds them.
-/
/-
  Plain: the order of texts is strict and total.
-/
/-
  Plain: what counts of the nodes that are up: in rising order of the nodes, each once.
-/
/-
  Plain: the aliases of the nodes that are up, in rising order, each once.
-/
/-
  Plain: which of two counts rather: transitive; where neither does, both say the same. The node that bears an alias.
-/
/-
  Plain: entries put in order by merging: in rising order of the keys, those of one key in the order in which they were.
-/
/-
  Plain: what counts of each node, as the program finds it: the same as the document's.
-/
/-
  Plain: the aliases that get a record, as the program finds them; the zone's records: the same as the document's.
-/
import Derived.Test.YtdhobdmhnocbgaaGreatSMsgs
import Derived.Test.YtdhobdmhnocbgaaGreatSBase
namespace Go.Proofs.YtdhobdmhnocbgaaGreat
open Zr

/-- News. -/
structure Ev where
  kind : Int
  node : ByteArray
  inc : Int
  addr : ByteArray
  port : Int
  text : ByteArray
  alias : ByteArray

instance : Inhabited Ev := ⟨⟨0, ⟨#[]⟩, 0, ⟨#[]⟩, 0, ⟨#[]⟩, ⟨#[]⟩⟩⟩

/-- The order of texts. -/
def ltS (x y : ByteArray) : Bool := Go.Op.bytesLess x.toList y.toList

def labC (c : Nat) : Prop := (97 ≤ c ∧ c ≤ 122) ∨ (48 ≤ c ∧ c ≤ 57) ∨ c = 45
def labelOk (s : ByteArray) : Prop := (∀ i, i < s.size → labC (bt s i)) ∧ 1 ≤ s.size ∧ s.size ≤ 15

def aliveOk (e : Ev) : Prop := (e.alias = ⟨#[]⟩ ∨ labelOk e.alias) ∧ (e.addr.size = 4 ∨ e.addr.size = 16) ∧ 0 ≤ e.port ∧ e.port ≤ 65535 ∧ e.text.size ≤ 60
def goodE (e : Ev) : Prop := labelOk e.node ∧ 0 ≤ e.inc ∧ e.inc ≤ 2147483647 ∧ (e.kind = 2 ∨ (e.kind = 1 ∧ aliveOk e))

/-- Which of two of the same node counts rather. -/
def ratherE (a b : Ev) : Prop :=
  if a.inc ≠ b.inc then b.inc < a.inc else if a.kind ≠ b.kind then a.kind = 2 else if a.kind = 2 then False else
  if a.addr ≠ b.addr then ltS b.addr a.addr = true else if a.port ≠ b.port then b.port < a.port else if a.text ≠ b.text then ltS b.text a.text = true else ltS b.alias a.alias = true

def evAt (l : List Ev) (i : Nat) : Ev := l[i]?.getD default

def beaten (l : List Ev) (i k : Nat) : Prop := goodE (evAt l k) ∧ (evAt l k).node = (evAt l i).node ∧ (ratherE (evAt l k) (evAt l i) ∨ (¬ ratherE (evAt l i) (evAt l k) ∧ k < i))
def countsE (l : List Ev) (i : Nat) : Prop := goodE (evAt l i) ∧ ∀ k, k < l.length → ¬ beaten l i k

open Classical in
/-- What counts of the nodes that are up, among the first. -/
noncomputable def allTo (l : List Ev) : Nat → List Ev
  | 0 => []
  | i + 1 => allTo l i ++ (if countsE l i ∧ (evAt l i).kind = 1 then [evAt l i] else [])

/-- The least node above the last, among the first. -/
def bestTo (all : List Ev) (last : ByteArray) : Nat → Option Nat
  | 0 => none
  | i + 1 =>
    if ltS last (evAt all i).node = true ∧ (∀ b, bestTo all last i = some b → ltS (evAt all i).node (evAt all b).node = true) then some i else bestTo all last i

def upStep (all : List Ev) (s : List Ev × ByteArray) : List Ev × ByteArray :=
  match bestTo all s.2 all.length with
  | none => s
  | some b => (s.1 ++ [evAt all b], (evAt all b).node)

def upTo (all : List Ev) : Nat → List Ev × ByteArray
  | 0 => ([], ⟨#[]⟩)
  | k + 1 => upStep all (upTo all k)

noncomputable def upP (l : List Ev) : List Ev := (upTo (allTo l l.length) (allTo l l.length).length).1

open Classical in
noncomputable def serTo (l : List Ev) : Nat → Int
  | 0 => 0
  | i + 1 => if goodE (evAt l i) ∧ serTo l i < (evAt l i).inc then (evAt l i).inc else serTo l i

/-- Names of the zone. -/
def originB : ByteArray := ⟨#[3, 115, 118, 99, 4, 109, 101, 115, 104, 0]⟩
def serverB : ByteArray := ⟨#[2, 110, 115, 3, 115, 118, 99, 4, 109, 101, 115, 104, 0]⟩
def adminB : ByteArray := ⟨#[5, 97, 100, 109, 105, 110, 3, 115, 118, 99, 4, 109, 101, 115, 104, 0]⟩
def serviceB : ByteArray := ⟨#[5, 95, 110, 111, 100, 101, 4, 95, 116, 99, 112, 3, 115, 118, 99, 4, 109, 101, 115, 104, 0]⟩

def one (n : Nat) : ByteArray := ⟨#[UInt8.ofNat n]⟩
def underP (s : ByteArray) : ByteArray := one s.size ++ s ++ originB
def madeR (name : ByteArray) (t : Int) (data : ByteArray) : RI := ⟨name, t, 1, 30, data⟩

/-- The first that has the alias, of the first ones; from the end on. -/
def bearTo (up : List Ev) (a : ByteArray) : Nat → ByteArray
  | 0 => ⟨#[]⟩
  | i + 1 => if (evAt up (up.length - 1 - i)).alias = a then (evAt up (up.length - 1 - i)).node else bearTo up a i
def bearP (up : List Ev) (a : ByteArray) : ByteArray := if (∃ i, i < up.length ∧ (evAt up i).node = a) then ⟨#[]⟩ else bearTo up a up.length

/-- The least alias above the last, among the first. -/
def leastTo (up : List Ev) (last : ByteArray) : Nat → ByteArray
  | 0 => ⟨#[]⟩
  | i + 1 =>
    if ltS last (evAt up i).alias = true ∧ (leastTo up last i = ⟨#[]⟩ ∨ ltS (evAt up i).alias (leastTo up last i) = true) then (evAt up i).alias else leastTo up last i

def aliStep (up : List Ev) (s : List RI × ByteArray) : List RI × ByteArray :=
  if leastTo up s.2 up.length = ⟨#[]⟩ then s
  else (if bearP up (leastTo up s.2 up.length) = ⟨#[]⟩ then s.1 else s.1 ++ [madeR (underP (leastTo up s.2 up.length)) 5 (underP (bearP up (leastTo up s.2 up.length)))], leastTo up s.2 up.length)

def aliTo (up : List Ev) : Nat → List RI × ByteArray
  | 0 => ([], ⟨#[]⟩)
  | k + 1 => aliStep up (aliTo up k)


def soaB (n : Nat) : ByteArray := serverB ++ adminB ++ q4 n ++ q4 3600 ++ q4 600 ++ q4 86400 ++ q4 30

def nodeR (e : Ev) : List RI := madeR (underP e.node) (if e.addr.size = 16 then 28 else 1) e.addr :: (if e.text = ⟨#[]⟩ then [] else [madeR (underP e.node) 16 (one e.text.size ++ e.text)])
def srvR (e : Ev) : RI := madeR serviceB 33 (q4 0 ++ wd e.port.toNat ++ underP e.node)

/-- The zone's records. -/
noncomputable def recordsP (l : List Ev) : List RI :=
  [madeR originB 6 (soaB (serTo l l.length).toNat), madeR originB 2 serverB] ++ (upP l).flatMap nodeR ++ (aliTo (upP l) (upP l).length).1 ++ (upP l).map srvR

/-- The cells of a list of news. -/
def evC (l : List Ev) : List Go.Value := l.flatMap fun x => [.int .i64 x.kind, .string x.node, .int .i64 x.inc, .string x.addr, .int .i64 x.port, .string x.text, .string x.alias]

end Go.Proofs.YtdhobdmhnocbgaaGreat

namespace Go.Proofs.YtdhobdmhnocbgaaGreat
open Zr

theorem bl_irrefl : ∀ x : List UInt8, Go.Op.bytesLess x x = false
  | [] => rfl
  | a :: x => by
    simp only [Go.Op.bytesLess, bl_irrefl x, Bool.and_false, Bool.or_false]
    exact decide_eq_false (UInt8.lt_irrefl a)

theorem bl_trans : ∀ {x y z : List UInt8}, Go.Op.bytesLess x y = true → Go.Op.bytesLess y z = true → Go.Op.bytesLess x z = true
  | _, [], _, h, _ => by simp [Go.Op.bytesLess] at h
  | _, _ :: _, [], _, h => by simp [Go.Op.bytesLess] at h
  | [], _ :: _, _ :: _, _, _ => rfl
  | a :: x, b :: y, c :: z, h1, h2 => by
    simp only [Go.Op.bytesLess, Bool.or_eq_true, Bool.and_eq_true, decide_eq_true_eq, beq_iff_eq] at h1 h2 ⊢
    rcases h1 with h1 | ⟨rfl, h1⟩
    · rcases h2 with h2 | ⟨rfl, _⟩
      · exact .inl (UInt8.lt_trans h1 h2)
      · exact .inl h1
    · rcases h2 with h2 | ⟨rfl, h2⟩
      · exact .inl h2
      · exact .inr ⟨rfl, bl_trans h1 h2⟩

theorem bl_total : ∀ {x y : List UInt8}, Go.Op.bytesLess x y = false → Go.Op.bytesLess y x = false → x = y
  | [], [], _, _ => rfl
  | [], _ :: _, h, _ => by simp [Go.Op.bytesLess] at h
  | _ :: _, [], _, h => by simp [Go.Op.bytesLess] at h
  | a :: x, b :: y, h1, h2 => by
    simp only [Go.Op.bytesLess, Bool.or_eq_false_iff, Bool.and_eq_false_iff, decide_eq_false_iff_not, beq_eq_false_iff_ne] at h1 h2
    have e : a = b := UInt8.le_antisymm (UInt8.not_lt.1 h2.1) (UInt8.not_lt.1 h1.1)
    subst e
    rcases h1.2 with h | h
    · exact absurd rfl h
    · rcases h2.2 with k | k
      · exact absurd rfl k
      · rw [bl_total h k]

theorem ltS_irrefl (x : ByteArray) : ltS x x = false := bl_irrefl _
theorem ltS_trans {x y z : ByteArray} (h1 : ltS x y = true) (h2 : ltS y z = true) : ltS x z = true := bl_trans h1 h2
theorem ltS_total {x y : ByteArray} (h1 : ltS x y = false) (h2 : ltS y x = false) : x = y := by
  have e := bl_total h1 h2
  have h : (x.toList == y.toList) = true := by rw [e]; exact beq_self_eq_true _
  rw [bytes_eqb] at h
  exact of_decide_eq_true h
theorem ltS_asymm {x y : ByteArray} (h : ltS x y = true) : ltS y x = false := by
  cases e : ltS y x with
  | false => rfl
  | true => have := ltS_trans h e; rw [ltS_irrefl] at this; cases this
theorem ltS_ne {x y : ByteArray} (h : ltS x y = true) : x ≠ y := fun e => by subst e; rw [ltS_irrefl] at h; cases h
theorem ltS_nil (x : ByteArray) : ltS x ⟨#[]⟩ = false := by
  unfold ltS
  rw [ByteArray.toList_eq ⟨#[]⟩]
  cases x.toList <;> rfl
theorem ltS_pos {x : ByteArray} : ltS ⟨#[]⟩ x = true ↔ x ≠ ⟨#[]⟩ := by
  constructor
  · exact fun h e => ltS_ne h e.symm
  · intro h
    cases e : ltS ⟨#[]⟩ x with
    | true => rfl
    | false => exact absurd (ltS_total e (ltS_nil x)).symm h

end Go.Proofs.YtdhobdmhnocbgaaGreat

namespace Go.Proofs.YtdhobdmhnocbgaaGreat
open Zr

theorem ev_mem {l : List Ev} {i : Nat} (h : i < l.length) : evAt l i ∈ l := by
  unfold evAt
  rw [List.getElem?_eq_getElem h]
  exact List.getElem_mem h
theorem mem_ev {l : List Ev} {e : Ev} (h : e ∈ l) : ∃ i, i < l.length ∧ evAt l i = e := by
  obtain ⟨i, hi, he⟩ := List.mem_iff_getElem.1 h
  refine ⟨i, hi, ?_⟩
  unfold evAt
  rw [List.getElem?_eq_getElem hi]
  exact he
theorem ev_at {l : List Ev} {i : Nat} (h : i < l.length) : evAt l i = l[i] := by
  unfold evAt
  rw [List.getElem?_eq_getElem h]
  rfl

theorem ltS_le_lt {x y z : ByteArray} (h1 : ltS y x = false) (h2 : ltS y z = true) : ltS x z = true := by
  cases e : ltS x y with
  | true => exact ltS_trans e h2
  | false => rw [ltS_total e h1]; exact h2

theorem best_none {all : List Ev} {last : ByteArray} : ∀ n, bestTo all last n = none → ∀ i, i < n → ltS last (evAt all i).node = false
  | 0, _, i, h => by omega
  | n + 1, h, i, hi => by
    unfold bestTo at h
    split at h
    · cases h
    · next hc =>
      rcases Nat.lt_or_ge i n with c | c
      · exact best_none n h i c
      · have : i = n := by omega
        subst this
        cases e : ltS last (evAt all i).node with
        | false => rfl
        | true => exact absurd ⟨e, fun b hb => by rw [h] at hb; cases hb⟩ hc

theorem best_some {all : List Ev} {last : ByteArray} : ∀ n b, bestTo all last n = some b → b < n ∧ ltS last (evAt all b).node = true ∧ ∀ i, i < n → ltS last (evAt all i).node = true → ltS (evAt all i).node (evAt all b).node = false
  | 0, b, h => by simp [bestTo] at h
  | n + 1, b, h => by
    unfold bestTo at h
    split at h
    · next hc =>
      cases h
      refine ⟨by omega, hc.1, fun i hi hl => ?_⟩
      rcases Nat.lt_or_ge i n with c | c
      · cases eb : bestTo all last n with
        | none => rw [best_none n eb i c] at hl; cases hl
        | some b =>
          obtain ⟨_, _, h3⟩ := best_some n b eb
          cases e : ltS (evAt all i).node (evAt all n).node with
          | false => rfl
          | true => have := ltS_trans e (hc.2 b eb); rw [h3 i c hl] at this; cases this
      · have : i = n := by omega
        subst this
        exact ltS_irrefl _
    · next hc =>
      obtain ⟨h1, h2, h3⟩ := best_some n b h
      refine ⟨by omega, h2, fun i hi hl => ?_⟩
      rcases Nat.lt_or_ge i n with c | c
      · exact h3 i c hl
      · have : i = n := by omega
        subst this
        cases e : ltS (evAt all i).node (evAt all b).node with
        | false => rfl
        | true => exact absurd ⟨hl, fun b' hb' => by rw [h] at hb'; cases hb'; exact e⟩ hc

/-- In rising order of the nodes. -/
def Rising (l : List Ev) : Prop := l.Pairwise fun a b => ltS a.node b.node = true

def above (all : List Ev) (last : ByteArray) : Nat := all.countP fun e => ltS last e.node

theorem count_lt {p q : Ev → Bool} : ∀ {l : List Ev}, (∀ e, e ∈ l → p e = true → q e = true) → (∃ e, e ∈ l ∧ q e = true ∧ p e = false) → l.countP p < l.countP q
  | [], _, h => by obtain ⟨e, he, _⟩ := h; simp at he
  | x :: l, h1, h2 => by
    have hle : l.countP p ≤ l.countP q := List.countP_mono_left fun e he hp => h1 e (List.mem_cons_of_mem _ he) hp
    obtain ⟨e, he, hq, hp⟩ := h2
    rcases List.mem_cons.1 he with rfl | he
    · rw [List.countP_cons_of_neg (by rw [hp]; simp), List.countP_cons_of_pos hq]
      omega
    · have ih := count_lt (fun e he => h1 e (List.mem_cons_of_mem _ he)) ⟨e, he, hq, hp⟩
      cases ep : p x with
      | true => rw [List.countP_cons_of_pos ep, List.countP_cons_of_pos (h1 x List.mem_cons_self ep)]; omega
      | false =>
        rw [List.countP_cons_of_neg (by rw [ep]; simp)]
        have : l.countP q ≤ (x :: l).countP q := by rw [List.countP_cons]; omega
        omega

structure UpInv (all : List Ev) (k : Nat) (s : List Ev × ByteArray) : Prop where
  rising : Rising s.1
  low : ∀ e, e ∈ s.1 → ltS s.2 e.node = false
  sub : ∀ e, e ∈ s.1 → e ∈ all
  got : ∀ e, e ∈ all → ltS s.2 e.node = false → e ∈ s.1
  less : above all s.2 ≤ all.length - k

theorem up_inv {all : List Ev} (hd : ∀ a b, a ∈ all → b ∈ all → a.node = b.node → a = b) (hn : ∀ e, e ∈ all → e.node ≠ ⟨#[]⟩) : ∀ k, UpInv all k (upTo all k)
  | 0 => ⟨List.Pairwise.nil, fun e he => by simp [upTo] at he, fun e he => by simp [upTo] at he, fun e he hl => by
      have := ltS_pos.2 (hn e he)
      rw [show (upTo all 0).2 = ⟨#[]⟩ from rfl] at hl
      rw [hl] at this
      exact Bool.noConfusion this, (by unfold above; exact List.countP_le_length)⟩
  | k + 1 => by
    have ih := up_inv hd hn k
    show UpInv all (k + 1) (upStep all (upTo all k))
    generalize upTo all k = s at *
    obtain ⟨out, last⟩ := s
    unfold upStep
    cases eb : bestTo all last all.length with
    | none =>
      refine ⟨ih.rising, ih.low, ih.sub, ih.got, ?_⟩
      have h0 : above all last = 0 := by
        unfold above
        rw [List.countP_eq_zero]
        intro e he
        obtain ⟨i, hi, rfl⟩ := mem_ev he
        rw [best_none _ eb i hi]
        simp
      show above all last ≤ _
      rw [h0]
      exact Nat.zero_le _
    | some b =>
      obtain ⟨hb, hl, hm⟩ := best_some _ _ eb
      have hbm := ev_mem hb
      have hlow : ∀ e, e ∈ out → ltS e.node (evAt all b).node = true := fun e he => ltS_le_lt (ih.low e he) hl
      refine ⟨?_, ?_, ?_, ?_, ?_⟩
      · show Rising (out ++ [evAt all b])
        refine List.pairwise_append.2 ⟨ih.rising, List.pairwise_singleton _ _, fun x hx y hy => ?_⟩
        rw [List.mem_singleton] at hy
        subst hy
        exact hlow x hx
      · intro e he
        rcases List.mem_append.1 he with he | he
        · exact ltS_asymm (hlow e he)
        · rw [List.mem_singleton] at he
          subst he
          exact ltS_irrefl _
      · intro e he
        rcases List.mem_append.1 he with he | he
        · exact ih.sub e he
        · rw [List.mem_singleton] at he
          subst he
          exact hbm
      · intro e he hle
        show e ∈ out ++ [evAt all b]
        cases el : ltS last e.node with
        | false => exact List.mem_append_left _ (ih.got e he el)
        | true =>
          obtain ⟨i, hi, rfl⟩ := mem_ev he
          have e1 := hm i hi el
          have e2 : (evAt all b).node = (evAt all i).node := ltS_total hle e1
          rw [hd _ _ he hbm e2.symm]
          simp
      · show above all (evAt all b).node ≤ _
        have hc : above all (evAt all b).node < above all last := by
          refine count_lt (fun e _ h => ltS_trans hl h) ⟨_, hbm, hl, ltS_irrefl _⟩
        have := ih.less
        show above all (evAt all b).node ≤ all.length - (k + 1)
        have h2 : above all last ≤ all.length - k := this
        omega

theorem up_all {all : List Ev} (hd : ∀ a b, a ∈ all → b ∈ all → a.node = b.node → a = b) (hn : ∀ e, e ∈ all → e.node ≠ ⟨#[]⟩) : Rising (upTo all all.length).1 ∧ ∀ e, e ∈ (upTo all all.length).1 ↔ e ∈ all := by
  have h := up_inv hd hn all.length
  refine ⟨h.rising, fun e => ⟨h.sub e, fun he => h.got e he ?_⟩⟩
  have h0 : above all (upTo all all.length).2 = 0 := by have := h.less; omega
  unfold above at h0
  rw [List.countP_eq_zero] at h0
  simpa using h0 e he

/-- Two lists in rising order with the same members are the same. -/
theorem rising_eq : ∀ {a b : List Ev}, Rising a → Rising b → (∀ e, e ∈ a ↔ e ∈ b) → a = b
  | [], [], _, _, _ => rfl
  | [], y :: b, _, _, h => by have := (h y).2 List.mem_cons_self; simp at this
  | x :: a, [], _, _, h => by have := (h x).1 List.mem_cons_self; simp at this
  | x :: a, y :: b, ha, hb, h => by
    obtain ⟨ha1, ha2⟩ := List.pairwise_cons.1 ha
    obtain ⟨hb1, hb2⟩ := List.pairwise_cons.1 hb
    have e : x = y := by
      rcases List.mem_cons.1 ((h x).1 List.mem_cons_self) with e | hx
      · exact e
      · rcases List.mem_cons.1 ((h y).2 List.mem_cons_self) with e | hy
        · exact e.symm
        · have := ltS_trans (hb1 x hx) (ha1 y hy)
          rw [ltS_irrefl] at this
          cases this
    subst e
    rw [rising_eq ha2 hb2 fun e => ⟨fun he => ?_, fun he => ?_⟩]
    · rcases List.mem_cons.1 ((h e).1 (List.mem_cons_of_mem _ he)) with rfl | h'
      · exact absurd rfl (ltS_ne (ha1 _ he))
      · exact h'
    · rcases List.mem_cons.1 ((h e).2 (List.mem_cons_of_mem _ he)) with rfl | h'
      · exact absurd rfl (ltS_ne (hb1 _ he))
      · exact h'

theorem all_mem {l : List Ev} : ∀ {n : Nat} {e : Ev}, e ∈ allTo l n ↔ ∃ i, i < n ∧ countsE l i ∧ (evAt l i).kind = 1 ∧ e = evAt l i
  | 0, e => by simp [allTo]
  | n + 1, e => by
    unfold allTo
    rw [List.mem_append, all_mem]
    constructor
    · rintro (⟨i, h1, h2⟩ | h)
      · exact ⟨i, by omega, h2⟩
      · split at h
        · next hc =>
          rw [List.mem_singleton] at h
          exact ⟨n, by omega, hc.1, hc.2, h⟩
        · simp at h
    · rintro ⟨i, h1, h2, h3, h4⟩
      rcases Nat.lt_or_ge i n with c | c
      · exact .inl ⟨i, c, h2, h3, h4⟩
      · have : i = n := by omega
        subst this
        refine .inr ?_
        rw [if_pos ⟨h2, h3⟩, h4]
        simp

/-- Of a node only one counts. -/
theorem counts_one {l : List Ev} {i k : Nat} (hi : countsE l i) (hk : countsE l k) (h1 : i < l.length) (h2 : k < l.length) (hn : (evAt l i).node = (evAt l k).node) : i = k := by
  rcases Nat.lt_trichotomy i k with c | c | c
  · have a1 := hi.2 k h2
    have a2 := hk.2 i h1
    have r1 : ¬ ratherE (evAt l k) (evAt l i) := fun h => a1 ⟨hk.1, hn.symm, .inl h⟩
    exact absurd ⟨hi.1, hn, .inr ⟨r1, c⟩⟩ a2
  · exact c
  · have a1 := hi.2 k h2
    have a2 := hk.2 i h1
    have r1 : ¬ ratherE (evAt l i) (evAt l k) := fun h => a2 ⟨hi.1, hn, .inl h⟩
    exact absurd ⟨hk.1, hn.symm, .inr ⟨r1, c⟩⟩ a1

theorem label_ne {s : ByteArray} (h : labelOk s) : s ≠ ⟨#[]⟩ := fun e => by
  subst e
  exact absurd (show 1 ≤ 0 from h.2.1) (by omega)

theorem upP_spec (l : List Ev) : Rising (upP l) ∧ ∀ e, e ∈ upP l ↔ ∃ i, i < l.length ∧ countsE l i ∧ (evAt l i).kind = 1 ∧ e = evAt l i := by
  have hd : ∀ a b, a ∈ allTo l l.length → b ∈ allTo l l.length → a.node = b.node → a = b := fun a b ha hb h => by
    obtain ⟨i, hi, ci, _, rfl⟩ := all_mem.1 ha
    obtain ⟨k, hk, ck, _, rfl⟩ := all_mem.1 hb
    rw [counts_one ci ck hi hk h]
  have hn : ∀ e, e ∈ allTo l l.length → e.node ≠ ⟨#[]⟩ := fun e he => by
    obtain ⟨i, _, ci, _, rfl⟩ := all_mem.1 he
    exact label_ne ci.1.1
  obtain ⟨h1, h2⟩ := up_all hd hn
  exact ⟨h1, fun e => (h2 e).trans all_mem⟩

end Go.Proofs.YtdhobdmhnocbgaaGreat

namespace Go.Proofs.YtdhobdmhnocbgaaGreat
open Zr

theorem least_none {up : List Ev} {last : ByteArray} : ∀ n, leastTo up last n = ⟨#[]⟩ → ∀ i, i < n → ltS last (evAt up i).alias = false
  | 0, _, i, h => by omega
  | n + 1, h, i, hi => by
    unfold leastTo at h
    split at h
    · next hc => rw [h, ltS_nil] at hc; exact Bool.noConfusion hc.1
    · next hc =>
      rcases Nat.lt_or_ge i n with c | c
      · exact least_none n h i c
      · have : i = n := by omega
        subst this
        cases e : ltS last (evAt up i).alias with
        | false => rfl
        | true => exact absurd ⟨e, .inl h⟩ hc

theorem least_some {up : List Ev} {last : ByteArray} : ∀ n, leastTo up last n ≠ ⟨#[]⟩ → (∃ i, i < n ∧ (evAt up i).alias = leastTo up last n) ∧ ltS last (leastTo up last n) = true ∧ ∀ i, i < n → ltS last (evAt up i).alias = true → ltS (evAt up i).alias (leastTo up last n) = false
  | 0, h => absurd rfl h
  | n + 1, h => by
    unfold leastTo at h ⊢
    split at h
    · next hc =>
      rw [if_pos hc]
      refine ⟨⟨n, by omega, rfl⟩, hc.1, fun i hi hl => ?_⟩
      rcases Nat.lt_or_ge i n with c | c
      · by_cases e0 : leastTo up last n = ⟨#[]⟩
        · rw [least_none n e0 i c] at hl; exact Bool.noConfusion hl
        · obtain ⟨_, _, h3⟩ := least_some n e0
          cases e : ltS (evAt up i).alias (evAt up n).alias with
          | false => rfl
          | true =>
            rcases hc.2 with h' | h'
            · exact absurd h' e0
            · have := ltS_trans e h'; rw [h3 i c hl] at this; exact Bool.noConfusion this
      · have : i = n := by omega
        subst this
        exact ltS_irrefl _
    · next hc =>
      rw [if_neg hc]
      obtain ⟨⟨j, hj, ej⟩, h2, h3⟩ := least_some n h
      refine ⟨⟨j, by omega, ej⟩, h2, fun i hi hl => ?_⟩
      rcases Nat.lt_or_ge i n with c | c
      · exact h3 i c hl
      · have : i = n := by omega
        subst this
        cases e : ltS (evAt up i).alias (leastTo up last i) with
        | false => rfl
        | true => exact absurd ⟨hl, .inr e⟩ hc

def RisingS (l : List ByteArray) : Prop := l.Pairwise fun a b => ltS a b = true

theorem risingS_eq : ∀ {a b : List ByteArray}, RisingS a → RisingS b → (∀ e, e ∈ a ↔ e ∈ b) → a = b
  | [], [], _, _, _ => rfl
  | [], y :: b, _, _, h => by have := (h y).2 List.mem_cons_self; simp at this
  | x :: a, [], _, _, h => by have := (h x).1 List.mem_cons_self; simp at this
  | x :: a, y :: b, ha, hb, h => by
    obtain ⟨ha1, ha2⟩ := List.pairwise_cons.1 ha
    obtain ⟨hb1, hb2⟩ := List.pairwise_cons.1 hb
    have e : x = y := by
      rcases List.mem_cons.1 ((h x).1 List.mem_cons_self) with e | hx
      · exact e
      · rcases List.mem_cons.1 ((h y).2 List.mem_cons_self) with e | hy
        · exact e.symm
        · have := ltS_trans (hb1 x hx) (ha1 y hy)
          rw [ltS_irrefl] at this
          cases this
    subst e
    rw [risingS_eq ha2 hb2 fun e => ⟨fun he => ?_, fun he => ?_⟩]
    · rcases List.mem_cons.1 ((h e).1 (List.mem_cons_of_mem _ he)) with rfl | h'
      · exact absurd rfl (ltS_ne (ha1 _ he))
      · exact h'
    · rcases List.mem_cons.1 ((h e).2 (List.mem_cons_of_mem _ he)) with rfl | h'
      · exact absurd rfl (ltS_ne (hb1 _ he))
      · exact h'

/-- The record of an alias, if it belongs to a node. -/
def aliR (up : List Ev) (a : ByteArray) : Option RI := if bearP up a = ⟨#[]⟩ then none else some (madeR (underP a) 5 (underP (bearP up a)))

def aboveA (up : List Ev) (last : ByteArray) : Nat := up.countP fun e => ltS last e.alias

structure AlInv (up : List Ev) (k : Nat) (s : List RI × ByteArray) : Prop where
  ex : ∃ S : List ByteArray, RisingS S ∧ (∀ a, a ∈ S → ltS s.2 a = false) ∧ (∀ a, a ∈ S → ∃ e, e ∈ up ∧ e.alias = a ∧ a ≠ ⟨#[]⟩) ∧ (∀ e, e ∈ up → e.alias ≠ ⟨#[]⟩ → ltS s.2 e.alias = false → e.alias ∈ S) ∧ s.1 = S.filterMap (aliR up)
  less : aboveA up s.2 ≤ up.length - k

theorem al_inv (up : List Ev) : ∀ k, AlInv up k (aliTo up k)
  | 0 => ⟨⟨[], List.Pairwise.nil, fun a ha => by simp at ha, fun a ha => by simp at ha, fun e _ h1 h2 => by
      have := ltS_pos.2 h1
      rw [show (aliTo up 0).2 = ⟨#[]⟩ from rfl] at h2
      rw [h2] at this
      exact Bool.noConfusion this, rfl⟩, (by unfold aboveA; exact List.countP_le_length)⟩
  | k + 1 => by
    have ih := al_inv up k
    show AlInv up (k + 1) (aliStep up (aliTo up k))
    generalize aliTo up k = s at *
    obtain ⟨out, last⟩ := s
    obtain ⟨⟨S, s1, s2, s3, s4, s5⟩, hless⟩ := ih
    simp only at s2 s4 s5 hless
    unfold aliStep
    simp only
    by_cases e0 : leastTo up last up.length = ⟨#[]⟩
    · rw [if_pos e0]
      refine ⟨⟨S, s1, s2, s3, s4, s5⟩, ?_⟩
      have h0 : aboveA up last = 0 := by
        unfold aboveA
        rw [List.countP_eq_zero]
        intro e he
        obtain ⟨i, hi, rfl⟩ := mem_ev he
        rw [least_none _ e0 i hi]
        simp
      show aboveA up last ≤ _
      rw [h0]
      exact Nat.zero_le _
    · rw [if_neg e0]
      obtain ⟨⟨i, hi, ei⟩, hl, hm⟩ := least_some _ e0
      generalize leastTo up last up.length = a at *
      have hlow : ∀ x, x ∈ S → ltS x a = true := fun x hx => ltS_le_lt (s2 x hx) hl
      refine ⟨⟨S ++ [a], ?_, ?_, ?_, ?_, ?_⟩, ?_⟩
      · refine List.pairwise_append.2 ⟨s1, List.pairwise_singleton _ _, fun x hx y hy => ?_⟩
        rw [List.mem_singleton] at hy
        subst hy
        exact hlow x hx
      · intro x hx
        rcases List.mem_append.1 hx with hx | hx
        · exact ltS_asymm (hlow x hx)
        · rw [List.mem_singleton] at hx
          subst hx
          exact ltS_irrefl _
      · intro x hx
        rcases List.mem_append.1 hx with hx | hx
        · exact s3 x hx
        · rw [List.mem_singleton] at hx
          subst hx
          exact ⟨_, ev_mem hi, ei, e0⟩
      · intro e he h1 h2
        cases el : ltS last e.alias with
        | false => exact List.mem_append_left _ (s4 e he h1 el)
        | true =>
          obtain ⟨j, hj, rfl⟩ := mem_ev he
          have k1 := hm j hj el
          rw [ltS_total k1 h2]
          simp
      · rw [List.filterMap_append, ← s5]
        unfold aliR
        by_cases eb : bearP up a = ⟨#[]⟩
        · simp [eb]
        · simp [eb]
      · have hc : aboveA up a < aboveA up last := by
          refine count_lt (fun e _ h => ltS_trans hl h) ⟨_, ev_mem hi, ?_, ?_⟩
          · rw [ei]; exact hl
          · rw [ei]; exact ltS_irrefl _
        show aboveA up a ≤ up.length - (k + 1)
        omega

/-- The aliases' records, of any list of the aliases in rising order. -/
theorem ali_spec (up : List Ev) (S : List ByteArray) (h1 : RisingS S) (h2 : ∀ a, a ∈ S ↔ ∃ e, e ∈ up ∧ e.alias = a ∧ a ≠ ⟨#[]⟩) : (aliTo up up.length).1 = S.filterMap (aliR up) := by
  obtain ⟨⟨T, t1, _, t3, t4, t5⟩, hless⟩ := al_inv up up.length
  have h0 : aboveA up (aliTo up up.length).2 = 0 := by omega
  unfold aboveA at h0
  rw [List.countP_eq_zero] at h0
  have e : T = S := risingS_eq t1 h1 fun a => by
    rw [h2]
    constructor
    · exact t3 a
    · rintro ⟨e, he, rfl, hne⟩
      exact t4 e he hne (by simpa using h0 e he)
  rw [t5, e]

end Go.Proofs.YtdhobdmhnocbgaaGreat

namespace Go.Proofs.YtdhobdmhnocbgaaGreat
open Zr

section
variable {α : Type} [DecidableEq α]

/-- One step of an order by several fields. -/
def lexI (f : Ev → α) (lt : α → α → Prop) (R : Ev → Ev → Prop) (a b : Ev) : Prop := if f a ≠ f b then lt (f b) (f a) else R a b

theorem lex_trans {f : Ev → α} {lt : α → α → Prop} {R : Ev → Ev → Prop} (hlt : ∀ x y z : α, x ≠ y → y ≠ z → lt y x → lt z y → x ≠ z ∧ lt z x) (hR : ∀ a b c, R a b → R b c → R a c) {a b c : Ev} (h1 : lexI f lt R a b) (h2 : lexI f lt R b c) : lexI f lt R a c := by
  unfold lexI at *
  by_cases e1 : f a = f b
  · rw [if_neg (by simpa using e1)] at h1
    by_cases e2 : f b = f c
    · rw [if_neg (by simpa using e2)] at h2
      rw [if_neg (by simp [e1, e2])]
      exact hR _ _ _ h1 h2
    · rw [if_pos e2] at h2
      rw [if_pos (by rw [e1]; exact e2), e1]
      exact h2
  · rw [if_pos e1] at h1
    by_cases e2 : f b = f c
    · rw [if_pos (by rw [← e2]; exact e1), ← e2]
      exact h1
    · rw [if_pos e2] at h2
      obtain ⟨k1, k2⟩ := hlt _ _ _ e1 e2 h1 h2
      rw [if_pos k1]
      exact k2

theorem lex_same {f : Ev → α} {lt : α → α → Prop} {R : Ev → Ev → Prop} (htot : ∀ x y : α, x ≠ y → lt x y ∨ lt y x) {a b : Ev} (h1 : ¬ lexI f lt R a b) (h2 : ¬ lexI f lt R b a) : f a = f b ∧ ¬ R a b ∧ ¬ R b a := by
  unfold lexI at *
  by_cases e : f a = f b
  · rw [if_neg (by simpa using e)] at h1
    rw [if_neg (by simp [e])] at h2
    exact ⟨e, h1, h2⟩
  · rw [if_pos e] at h1
    rw [if_pos (Ne.symm e)] at h2
    rcases htot _ _ e with h | h
    · exact absurd h h2
    · exact absurd h h1

theorem lex_irrefl {f : Ev → α} {lt : α → α → Prop} {R : Ev → Ev → Prop} (hR : ∀ a, ¬ R a a) (a : Ev) : ¬ lexI f lt R a a := by
  unfold lexI
  rw [if_neg (by simp)]
  exact hR a

end

def raAlias (a b : Ev) : Prop := ltS b.alias a.alias = true
def raText : Ev → Ev → Prop := lexI Ev.text (fun x y => ltS x y = true) raAlias
def raPort : Ev → Ev → Prop := lexI Ev.port (fun x y => x < y) raText
def raAddr : Ev → Ev → Prop := lexI Ev.addr (fun x y => ltS x y = true) raPort
def raGone (a b : Ev) : Prop := a.kind ≠ 2 ∧ raAddr a b
def raKind (a b : Ev) : Prop := if a.kind ≠ b.kind then a.kind = 2 else raGone a b
def raInc : Ev → Ev → Prop := lexI Ev.inc (fun x y => x < y) raKind

theorem rather_iff (a b : Ev) : ratherE a b ↔ raInc a b := by
  unfold ratherE raInc lexI raKind raGone raAddr lexI raPort lexI raText lexI raAlias
  by_cases h1 : a.inc = b.inc
  · by_cases h2 : a.kind = b.kind
    · by_cases h3 : b.kind = 2
      · simp [h1, h2, h3]
      · simp [h1, h2, h3]
    · simp [h1, h2]
  · simp [h1]

theorem ltS_step (x y z : ByteArray) (_ : x ≠ y) (_ : y ≠ z) (h1 : ltS y x = true) (h2 : ltS z y = true) : x ≠ z ∧ ltS z x = true :=
  have h := ltS_trans h2 h1
  ⟨fun e => ltS_ne h e.symm, h⟩
theorem ltI_step (x y z : Int) (_ : x ≠ y) (_ : y ≠ z) (h1 : y < x) (h2 : z < y) : x ≠ z ∧ z < x := by omega
theorem ltS_or (x y : ByteArray) (h : x ≠ y) : ltS x y = true ∨ ltS y x = true := by
  cases e1 : ltS x y with
  | true => exact .inl rfl
  | false =>
    cases e2 : ltS y x with
    | true => exact .inr rfl
    | false => exact absurd (ltS_total e1 e2) h
theorem ltI_or (x y : Int) (h : x ≠ y) : x < y ∨ y < x := by omega

theorem raAlias_trans : ∀ a b c, raAlias a b → raAlias b c → raAlias a c := fun _ _ _ h1 h2 => ltS_trans h2 h1
theorem raText_trans : ∀ a b c, raText a b → raText b c → raText a c := fun _ _ _ => lex_trans ltS_step raAlias_trans
theorem raPort_trans : ∀ a b c, raPort a b → raPort b c → raPort a c := fun _ _ _ => lex_trans ltI_step raText_trans
theorem raAddr_trans : ∀ a b c, raAddr a b → raAddr b c → raAddr a c := fun _ _ _ => lex_trans ltS_step raPort_trans
theorem rather_same {a b : Ev} (h1 : ¬ ratherE a b) (h2 : ¬ ratherE b a) : a.inc = b.inc ∧ (a.kind = b.kind ∨ (a.kind ≠ 2 ∧ b.kind ≠ 2)) ∧ (a.kind = b.kind → a.kind ≠ 2 → a.addr = b.addr ∧ a.port = b.port ∧ a.text = b.text ∧ a.alias = b.alias) := by
  rw [rather_iff] at h1 h2
  obtain ⟨e1, k1, k2⟩ := lex_same (f := Ev.inc) ltI_or h1 h2
  unfold raKind at k1 k2
  refine ⟨e1, ?_, fun ek hk => ?_⟩
  · by_cases e : a.kind = b.kind
    · exact .inl e
    · rw [if_pos e] at k1
      rw [if_pos (Ne.symm e)] at k2
      exact .inr ⟨k1, k2⟩
  · rw [if_neg (by simpa using ek)] at k1
    rw [if_neg (by simp [ek])] at k2
    have g1 : ¬ raAddr a b := fun h => k1 ⟨hk, h⟩
    have g2 : ¬ raAddr b a := fun h => k2 ⟨by rw [← ek]; exact hk, h⟩
    obtain ⟨e2, g1, g2⟩ := lex_same (f := Ev.addr) ltS_or g1 g2
    obtain ⟨e3, g1, g2⟩ := lex_same (f := Ev.port) ltI_or g1 g2
    obtain ⟨e4, g1, g2⟩ := lex_same (f := Ev.text) ltS_or g1 g2
    refine ⟨e2, e3, e4, ltS_total ?_ ?_⟩
    · unfold raAlias at g2; simpa using g2
    · unfold raAlias at g1; simpa using g1

theorem bear_first {up : List Ev} {a : ByteArray} : ∀ n i, n ≤ up.length → up.length - n ≤ i → i < up.length → (evAt up i).alias = a → (∀ k, up.length - n ≤ k → k < i → (evAt up k).alias ≠ a) → bearTo up a n = (evAt up i).node
  | 0, i, _, h1, h2, _, _ => by omega
  | n + 1, i, hn, h1, h2, h3, h4 => by
    unfold bearTo
    by_cases c : up.length - 1 - n = i
    · rw [c, if_pos h3]
    · rw [if_neg (h4 _ (by omega) (by omega))]
      exact bear_first n i (by omega) (by omega) h2 h3 fun k k1 k2 => h4 k (by omega) k2

end Go.Proofs.YtdhobdmhnocbgaaGreat

namespace Go.Proofs.YtdhobdmhnocbgaaGreat
open Zr

/-- News with the text by which they are put in order. -/
structure En where
  key : ByteArray
  ev : Ev

def SortedE (l : List En) : Prop := l.Pairwise fun a b => ltS b.key a.key = false

theorem ltS_le_trans {x y z : ByteArray} (h1 : ltS y x = false) (h2 : ltS z y = false) : ltS z x = false := by
  cases e : ltS z x with
  | false => rfl
  | true =>
    cases e2 : ltS x y with
    | true => rw [ltS_trans e e2] at h2; cases h2
    | false => rw [ltS_total e2 h1] at e; rw [e] at h2; cases h2

def mergeP : List En → List En → List En
  | [], b => b
  | x :: a, [] => x :: a
  | x :: a, y :: b => if ltS y.key x.key = true then y :: mergeP (x :: a) b else x :: mergeP a (y :: b)

theorem merge_nil (a : List En) : mergeP a [] = a := by cases a <;> simp [mergeP]
theorem merge_right {x y : En} {a b : List En} (h : ltS y.key x.key = true) : mergeP (x :: a) (y :: b) = y :: mergeP (x :: a) b := by rw [mergeP, if_pos h]
theorem merge_left {x y : En} {a b : List En} (h : ltS y.key x.key = false) : mergeP (x :: a) (y :: b) = x :: mergeP a (y :: b) := by rw [mergeP, if_neg (by rw [h]; simp)]

theorem merge_mem : ∀ {a b : List En} {e : En}, e ∈ mergeP a b ↔ e ∈ a ∨ e ∈ b
  | [], b, e => by simp [mergeP]
  | x :: a, [], e => by simp [mergeP]
  | x :: a, y :: b, e => by
    cases h : ltS y.key x.key with
    | true =>
      rw [merge_right h, List.mem_cons, merge_mem, List.mem_cons (b := y)]
      constructor
      · rintro (h | h | h)
        · exact .inr (.inl h)
        · exact .inl h
        · exact .inr (.inr h)
      · rintro (h | h | h)
        · exact .inr (.inl h)
        · exact .inl h
        · exact .inr (.inr h)
    | false =>
      rw [merge_left h, List.mem_cons, merge_mem, List.mem_cons (b := x) (l := a)]
      constructor
      · rintro (h | h | h)
        · exact .inl (.inl h)
        · exact .inl (.inr h)
        · exact .inr h
      · rintro ((h | h) | h)
        · exact .inl h
        · exact .inr (.inl h)
        · exact .inr (.inr h)
termination_by a b => a.length + b.length

theorem merge_sorted : ∀ {a b : List En}, SortedE a → SortedE b → SortedE (mergeP a b)
  | [], b, _, hb => by simpa [mergeP] using hb
  | x :: a, [], ha, _ => by simpa [mergeP] using ha
  | x :: a, y :: b, ha, hb => by
    obtain ⟨ha1, ha2⟩ := List.pairwise_cons.1 ha
    obtain ⟨hb1, hb2⟩ := List.pairwise_cons.1 hb
    cases h : ltS y.key x.key with
    | true =>
      rw [merge_right h]
      refine List.pairwise_cons.2 ⟨fun e he => ?_, merge_sorted ha hb2⟩
      rcases merge_mem.1 he with he | he
      · rcases List.mem_cons.1 he with rfl | he
        · exact ltS_asymm h
        · exact ltS_le_trans (ltS_asymm h) (ha1 e he)
      · exact hb1 e he
    | false =>
      rw [merge_left h]
      refine List.pairwise_cons.2 ⟨fun e he => ?_, merge_sorted ha2 hb⟩
      rcases merge_mem.1 he with he | he
      · exact ha1 e he
      · rcases List.mem_cons.1 he with rfl | he
        · exact h
        · exact ltS_le_trans h (hb1 e he)
termination_by a b => a.length + b.length

theorem merge_length : ∀ a b : List En, (mergeP a b).length = a.length + b.length
  | [], b => by simp [mergeP]
  | x :: a, [] => by simp [mergeP]
  | x :: a, y :: b => by
    cases h : ltS y.key x.key with
    | true => rw [merge_right h, List.length_cons, merge_length]; simp only [List.length_cons]; omega
    | false => rw [merge_left h, List.length_cons, merge_length]; simp only [List.length_cons]; omega
termination_by a b => a.length + b.length

def ofKey (k : ByteArray) (l : List En) : List En := l.filter fun e => decide (e.key = k)

theorem ofKey_none {k : ByteArray} {l : List En} (h : ∀ e, e ∈ l → e.key ≠ k) : ofKey k l = [] := by
  unfold ofKey
  rw [List.filter_eq_nil_iff]
  intro e he
  simpa using h e he

theorem merge_key (k : ByteArray) : ∀ {a b : List En}, SortedE a → SortedE b → ofKey k (mergeP a b) = ofKey k a ++ ofKey k b
  | [], b, _, _ => by simp [mergeP, ofKey]
  | x :: a, [], _, _ => by simp [mergeP, ofKey]
  | x :: a, y :: b, ha, hb => by
    obtain ⟨ha1, ha2⟩ := List.pairwise_cons.1 ha
    obtain ⟨hb1, hb2⟩ := List.pairwise_cons.1 hb
    cases h : ltS y.key x.key with
    | true =>
      rw [merge_right h]
      by_cases c : y.key = k
      · have e0 : ofKey k (x :: a) = [] := ofKey_none fun e he ek => by
          rcases List.mem_cons.1 he with rfl | he
          · rw [c, ← ek] at h; rw [ltS_irrefl] at h; cases h
          · have := ha1 e he
            rw [ek, ← c] at this
            rw [h] at this; cases this
        have e1 : ofKey k (y :: mergeP (x :: a) b) = y :: ofKey k (mergeP (x :: a) b) := by unfold ofKey; rw [List.filter_cons_of_pos (by simpa using c)]
        have e2 : ofKey k (y :: b) = y :: ofKey k b := by unfold ofKey; rw [List.filter_cons_of_pos (by simpa using c)]
        rw [e1, e2, merge_key k ha hb2, e0]
        rfl
      · have e1 : ofKey k (y :: mergeP (x :: a) b) = ofKey k (mergeP (x :: a) b) := by unfold ofKey; rw [List.filter_cons_of_neg (by simpa using c)]
        have e2 : ofKey k (y :: b) = ofKey k b := by unfold ofKey; rw [List.filter_cons_of_neg (by simpa using c)]
        rw [e1, e2, merge_key k ha hb2]
    | false =>
      rw [merge_left h]
      by_cases c : x.key = k
      · have e1 : ofKey k (x :: mergeP a (y :: b)) = x :: ofKey k (mergeP a (y :: b)) := by unfold ofKey; rw [List.filter_cons_of_pos (by simpa using c)]
        have e2 : ofKey k (x :: a) = x :: ofKey k a := by unfold ofKey; rw [List.filter_cons_of_pos (by simpa using c)]
        rw [e1, e2, merge_key k ha2 hb]
        rfl
      · have e1 : ofKey k (x :: mergeP a (y :: b)) = ofKey k (mergeP a (y :: b)) := by unfold ofKey; rw [List.filter_cons_of_neg (by simpa using c)]
        have e2 : ofKey k (x :: a) = ofKey k a := by unfold ofKey; rw [List.filter_cons_of_neg (by simpa using c)]
        rw [e1, e2, merge_key k ha2 hb]
termination_by a b => a.length + b.length

/-- What is sorted, as the program does it. -/
def sortP (l : List En) : List En :=
  if _h : l.length < 2 then l else mergeP (sortP (l.take (l.length / 2))) (sortP (l.drop (l.length / 2)))
termination_by l.length
decreasing_by
  · rw [List.length_take]; omega
  · rw [List.length_drop]; omega

theorem sort_few {l : List En} (h : l.length < 2) : sortP l = l := by rw [sortP, dif_pos h]
theorem sort_many {l : List En} (h : ¬ l.length < 2) : sortP l = mergeP (sortP (l.take (l.length / 2))) (sortP (l.drop (l.length / 2))) := by rw [sortP, dif_neg h]

theorem sort_length (l : List En) : (sortP l).length = l.length := by
  by_cases h : l.length < 2
  · rw [sort_few h]
  · rw [sort_many h, merge_length, sort_length, sort_length, List.length_take, List.length_drop]
    omega
termination_by l.length
decreasing_by
  · rw [List.length_take]; omega
  · rw [List.length_drop]; omega

theorem sort_sorted (l : List En) : SortedE (sortP l) := by
  by_cases h : l.length < 2
  · rw [sort_few h]
    match l, h with
    | [], _ => exact List.Pairwise.nil
    | [x], _ => exact List.pairwise_singleton _ _
  · rw [sort_many h]
    exact merge_sorted (sort_sorted _) (sort_sorted _)
termination_by l.length
decreasing_by
  · rw [List.length_take]; omega
  · rw [List.length_drop]; omega

theorem sort_key (k : ByteArray) (l : List En) : ofKey k (sortP l) = ofKey k l := by
  by_cases h : l.length < 2
  · rw [sort_few h]
  · rw [sort_many h, merge_key k (sort_sorted _) (sort_sorted _), sort_key k (l.take (l.length / 2)), sort_key k (l.drop (l.length / 2))]
    unfold ofKey
    rw [← List.filter_append, List.take_append_drop]
termination_by l.length
decreasing_by
  · rw [List.length_take]; omega
  · rw [List.length_drop]; omega

theorem sort_mem {l : List En} {e : En} : e ∈ sortP l ↔ e ∈ l := by
  have h : ∀ L : List En, e ∈ L ↔ e ∈ ofKey e.key L := fun L => by unfold ofKey; rw [List.mem_filter]; simp
  rw [h, sort_key, ← h]

end Go.Proofs.YtdhobdmhnocbgaaGreat

namespace Go.Proofs.YtdhobdmhnocbgaaGreat
open Zr

/-- Which of two the program takes rather. -/
def raKindB (a b : Ev) : Prop := if a.kind ≠ b.kind then a.kind = 2 else raAddr a b
def beatsE : Ev → Ev → Prop := lexI Ev.inc (fun x y => x < y) raKindB

theorem raKindB_trans : ∀ a b c, raKindB a b → raKindB b c → raKindB a c := by
  intro a b c h1 h2
  unfold raKindB at *
  by_cases e1 : a.kind = b.kind
  · rw [if_neg (by simpa using e1)] at h1
    by_cases e2 : b.kind = c.kind
    · rw [if_neg (by simpa using e2)] at h2
      rw [if_neg (by simp [e1, e2])]
      exact raAddr_trans _ _ _ h1 h2
    · rw [if_pos e2] at h2
      rw [if_pos (by rw [e1]; exact e2), e1]
      exact h2
  · rw [if_pos e1] at h1
    by_cases e2 : b.kind = c.kind
    · rw [if_pos (by rw [← e2]; exact e1)]
      exact h1
    · rw [if_pos e2] at h2
      exact absurd (h1.trans h2.symm) e1
theorem beats_trans {a b c : Ev} (h1 : beatsE a b) (h2 : beatsE b c) : beatsE a c := lex_trans ltI_step raKindB_trans h1 h2
theorem beats_irrefl (a : Ev) : ¬ beatsE a a := by
  refine lex_irrefl (fun a => ?_) a
  unfold raKindB
  rw [if_neg (by simp)]
  exact lex_irrefl (lex_irrefl (lex_irrefl (fun a h => by unfold raAlias at h; rw [ltS_irrefl] at h; cases h))) a

theorem beats_of_rather {a b : Ev} (h : ratherE a b) : beatsE a b := by
  rw [rather_iff] at h
  unfold raInc lexI at h
  unfold beatsE lexI
  by_cases e : a.inc = b.inc
  · rw [if_neg (by simpa using e)] at h ⊢
    unfold raKind at h
    unfold raKindB
    by_cases k : a.kind = b.kind
    · rw [if_neg (by simpa using k)] at h ⊢
      exact h.2
    · rw [if_pos k] at h ⊢
      exact h
  · rw [if_pos e] at h ⊢
    exact h

open Classical in
noncomputable def goodL (l : List Ev) : List Ev := l.filter fun e => decide (goodE e)
def nodeEs (l : List Ev) : List En := l.map fun e => ⟨e.node, e⟩

open Classical in
/-- One more, of entries in rising order. -/
noncomputable def cntStep (c : List Ev) (e : En) : List Ev :=
  if h : c = [] then [e.ev]
  else if (c.getLast h).node ≠ e.key then c ++ [e.ev]
  else if beatsE e.ev (c.getLast h) then c.dropLast ++ [e.ev] else c

noncomputable def cntP (l : List En) : List Ev := l.foldl cntStep []

structure CntInv (L : List En) (C : List Ev) : Prop where
  rising : Rising C
  sub : ∀ c, c ∈ C → ∃ e, e ∈ L ∧ e.ev = c
  top : ∀ e, e ∈ L → ∃ c, c ∈ C ∧ c.node = e.ev.node ∧ ¬ beatsE e.ev c

theorem cnt_step {L : List En} {e : En} {C : List Ev} (hk : ∀ x, x ∈ L ++ [e] → x.key = x.ev.node) (hs : SortedE (L ++ [e])) (h : CntInv L C) : CntInv (L ++ [e]) (cntStep C e) := by
  have hke : e.key = e.ev.node := hk e (by simp)
  have hle : ∀ x, x ∈ L → ltS e.ev.node x.ev.node = false := fun x hx => by
    have := (List.pairwise_append.1 hs).2.2 x hx e (by simp)
    rw [hke, hk x (by simp [hx])] at this
    exact this
  unfold cntStep
  by_cases hn : C = []
  · rw [dif_pos hn]
    subst hn
    refine ⟨List.pairwise_singleton _ _, fun c hc => ?_, fun x hx => ?_⟩
    · rw [List.mem_singleton] at hc
      exact ⟨e, by simp, hc.symm⟩
    · rcases List.mem_append.1 hx with hx | hx
      · obtain ⟨c, hc, _⟩ := h.top x hx
        simp at hc
      · rw [List.mem_singleton] at hx
        subst hx
        exact ⟨_, by simp, rfl, beats_irrefl _⟩
  · rw [dif_neg hn]
    obtain ⟨D, y, rfl⟩ : ∃ D y, C = D ++ [y] := ⟨C.dropLast, C.getLast hn, (List.dropLast_concat_getLast hn).symm⟩
    rw [List.getLast_concat, List.dropLast_concat]
    obtain ⟨hD, _, hDy⟩ := List.pairwise_append.1 h.rising
    have hy : ∃ x, x ∈ L ∧ x.ev = y := h.sub y (by simp)
    have hye : ltS e.ev.node y.node = false := by
      obtain ⟨x, hx, rfl⟩ := hy
      exact hle x hx
    by_cases c1 : y.node = e.key
    · rw [if_neg (by simpa using c1)]
      by_cases c2 : beatsE e.ev y
      · rw [if_pos c2]
        refine ⟨List.pairwise_append.2 ⟨hD, List.pairwise_singleton _ _, fun a ha b hb => ?_⟩, fun c hc => ?_, fun x hx => ?_⟩
        · rw [List.mem_singleton] at hb
          subst hb
          rw [← hke, ← c1]
          exact hDy a ha y (by simp)
        · rcases List.mem_append.1 hc with hc | hc
          · obtain ⟨x, hx, hxe⟩ := h.sub c (by simp [hc])
            exact ⟨x, by simp [hx], hxe⟩
          · rw [List.mem_singleton] at hc
            exact ⟨e, by simp, hc.symm⟩
        · rcases List.mem_append.1 hx with hx | hx
          · obtain ⟨c, hc, h1, h2⟩ := h.top x hx
            rcases List.mem_append.1 hc with hc | hc
            · exact ⟨c, by simp [hc], h1, h2⟩
            · rw [List.mem_singleton] at hc
              subst hc
              exact ⟨e.ev, by simp, by rw [← hke, ← c1, h1], fun hb => h2 (beats_trans hb c2)⟩
          · rw [List.mem_singleton] at hx
            subst hx
            exact ⟨_, by simp, rfl, beats_irrefl _⟩
      · rw [if_neg c2]
        refine ⟨h.rising, fun c hc => ?_, fun x hx => ?_⟩
        · obtain ⟨x, hx, hxe⟩ := h.sub c hc
          exact ⟨x, by simp [hx], hxe⟩
        · rcases List.mem_append.1 hx with hx | hx
          · exact h.top x hx
          · rw [List.mem_singleton] at hx
            subst hx
            exact ⟨y, by simp, c1.trans hke, c2⟩
    · rw [if_pos c1]
      have hlt : ltS y.node e.ev.node = true := by
        cases q : ltS y.node e.ev.node with
        | true => rfl
        | false => exact absurd ((ltS_total q hye).trans hke.symm) c1
      refine ⟨List.pairwise_append.2 ⟨h.rising, List.pairwise_singleton _ _, fun a ha b hb => ?_⟩, fun c hc => ?_, fun x hx => ?_⟩
      · rw [List.mem_singleton] at hb
        subst hb
        rcases List.mem_append.1 ha with ha | ha
        · exact ltS_trans (hDy a ha y (by simp)) hlt
        · rw [List.mem_singleton] at ha
          subst ha
          exact hlt
      · rcases List.mem_append.1 hc with hc | hc
        · obtain ⟨x, hx, hxe⟩ := h.sub c hc
          exact ⟨x, by simp [hx], hxe⟩
        · rw [List.mem_singleton] at hc
          exact ⟨e, by simp, hc.symm⟩
      · rcases List.mem_append.1 hx with hx | hx
        · obtain ⟨c, hc, h1, h2⟩ := h.top x hx
          exact ⟨c, List.mem_append_left _ hc, h1, h2⟩
        · rw [List.mem_singleton] at hx
          subst hx
          exact ⟨_, by simp, rfl, beats_irrefl _⟩

theorem cnt_inv {L : List En} (hk : ∀ x, x ∈ L → x.key = x.ev.node) (hs : SortedE L) : ∀ n, n ≤ L.length → CntInv (L.take n) ((L.take n).foldl cntStep [])
  | 0, _ => ⟨by simp [Rising], fun c hc => by simp at hc, fun x hx => by simp at hx⟩
  | n + 1, hn => by
    have ih := cnt_inv hk hs n (by omega)
    have e : L.take (n + 1) = L.take n ++ [L[n]] := List.take_succ_eq_append_getElem (by omega)
    rw [e, List.foldl_append]
    rw [List.foldl_cons, List.foldl_nil]
    have hsub : (L.take n ++ [L[n]]).Sublist L := by rw [← e]; exact List.take_sublist _ _
    exact cnt_step (fun x hx => hk x (hsub.subset hx)) (hs.sublist hsub) ih

theorem cnt_all {L : List En} (hk : ∀ x, x ∈ L → x.key = x.ev.node) (hs : SortedE L) : CntInv L (cntP L) := by
  have h := cnt_inv hk hs L.length (Nat.le_refl _)
  rw [List.take_length] at h
  exact h

/-- What is up, as the program finds it. -/
noncomputable def upM (l : List Ev) : List Ev := (cntP (sortP (nodeEs (goodL l)))).filter fun e => decide (e.kind = 1)

open Classical in
theorem good_mem {l : List Ev} {e : Ev} : e ∈ goodL l ↔ e ∈ l ∧ goodE e := by
  unfold goodL
  rw [List.mem_filter, decide_eq_true_eq]

theorem first_at {l : List Ev} {e : Ev} (h : e ∈ l) : ∃ i, i < l.length ∧ evAt l i = e ∧ ∀ k, k < i → evAt l k ≠ e := by
  have : ∀ n, n ≤ l.length → (∃ i, i < n ∧ evAt l i = e) → ∃ i, i < n ∧ evAt l i = e ∧ ∀ k, k < i → evAt l k ≠ e := by
    intro n
    induction n with
    | zero => rintro _ ⟨i, hi, _⟩; omega
    | succ n ih =>
      rintro hn ⟨i, hi, he⟩
      by_cases c : ∃ i, i < n ∧ evAt l i = e
      · obtain ⟨j, hj, h1, h2⟩ := ih (by omega) c
        exact ⟨j, by omega, h1, h2⟩
      · have : i = n := by
          rcases Nat.lt_or_ge i n with q | q
          · exact absurd ⟨i, q, he⟩ c
          · omega
        subst this
        exact ⟨i, by omega, he, fun k hk hek => c ⟨k, hk, hek⟩⟩
  obtain ⟨i, hi, he⟩ := mem_ev h
  exact this l.length (Nat.le_refl _) ⟨i, hi, he⟩

theorem same_ev {a b : Ev} (hn : a.node = b.node) (ha : goodE a) (hb : goodE b) (hk : a.kind = 1) (h1 : ¬ ratherE a b) (h2 : ¬ ratherE b a) : a = b := by
  obtain ⟨e1, e2, e3⟩ := rather_same h1 h2
  have hk2 : b.kind = 1 := by
    rcases e2 with e2 | e2
    · rw [← e2, hk]
    · rcases hb.2.2.2 with h | h
      · exact absurd h e2.2
      · exact h.1
  obtain ⟨f1, f2, f3, f4⟩ := e3 (hk.trans hk2.symm) (by rw [hk]; decide)
  obtain ⟨k, n, i, a, p, t, al⟩ := a
  obtain ⟨k', n', i', a', p', t', al'⟩ := b
  simp only at *
  subst hn e1 hk hk2 f1 f2 f3 f4
  rfl

theorem up_same (l : List Ev) : upM l = upP l := by
  obtain ⟨r1, m1⟩ := upP_spec l
  have hk : ∀ x, x ∈ sortP (nodeEs (goodL l)) → x.key = x.ev.node := fun x hx => by
    have := sort_mem.1 hx
    unfold nodeEs at this
    obtain ⟨e, _, rfl⟩ := List.mem_map.1 this
    rfl
  have hc := cnt_all hk (sort_sorted _)
  have hm : ∀ e, e ∈ goodL l ↔ ∃ x, x ∈ sortP (nodeEs (goodL l)) ∧ x.ev = e := fun e => by
    constructor
    · intro h
      exact ⟨⟨e.node, e⟩, sort_mem.2 (List.mem_map.2 ⟨e, h, rfl⟩), rfl⟩
    · rintro ⟨x, hx, rfl⟩
      obtain ⟨e, he, rfl⟩ := List.mem_map.1 (sort_mem.1 hx)
      exact he
  refine rising_eq (hc.rising.filter _) r1 fun e => ?_
  rw [m1]
  unfold upM
  rw [List.mem_filter, decide_eq_true_eq]
  constructor
  · rintro ⟨he, hk1⟩
    have hg := (hm e).2 (hc.sub e he)
    obtain ⟨hl, hgood⟩ := good_mem.1 hg
    have hmax : ∀ x, x ∈ l → goodE x → x.node = e.node → ¬ beatsE x e := fun x hx hgx hxn hb => by
      obtain ⟨z, hz, hze⟩ := (hm x).1 (good_mem.2 ⟨hx, hgx⟩)
      obtain ⟨c, hc1, hc2, hc3⟩ := hc.top z hz
      rw [hze] at hc2 hc3
      have : c = e := by
        rcases Classical.em (c = e) with h | h
        · exact h
        · have hne : c.node ≠ e.node := fun hh => by
            obtain ⟨i, hi, rfl⟩ := List.mem_iff_getElem.1 hc1
            obtain ⟨j, hj, rfl⟩ := List.mem_iff_getElem.1 he
            have hp := List.pairwise_iff_getElem.1 hc.rising
            rcases Nat.lt_trichotomy i j with q | q | q
            · exact ltS_ne (hp i j hi hj q) hh
            · subst q; exact h rfl
            · exact ltS_ne (hp j i hj hi q) hh.symm
          exact absurd (hc2.trans hxn) hne
      subst this
      exact hc3 hb
    obtain ⟨i, hi, hie, hfirst⟩ := first_at hl
    refine ⟨i, hi, ⟨by rw [hie]; exact hgood, fun k hk hbt => ?_⟩, by rw [hie]; exact hk1, hie.symm⟩
    obtain ⟨b1, b2, b3⟩ := hbt
    rw [hie] at b2 b3
    have hkm : evAt l k ∈ l := ev_mem hk
    have hnb := hmax _ hkm b1 b2
    have hnr : ¬ ratherE (evAt l k) e := fun h => hnb (beats_of_rather h)
    rcases b3 with b3 | ⟨b3, b4⟩
    · exact hnr b3
    · exact hfirst k b4 (same_ev b2.symm hgood b1 hk1 b3 hnr).symm
  · rintro ⟨i, hi, hci, hk1, rfl⟩
    obtain ⟨z, hz, hze⟩ := (hm _).1 (good_mem.2 ⟨ev_mem hi, hci.1⟩)
    obtain ⟨c, hc1, hc2, hc3⟩ := hc.top z hz
    rw [hze] at hc2 hc3
    obtain ⟨hcl, hcg⟩ := good_mem.1 ((hm c).2 (hc.sub c hc1))
    obtain ⟨k, hk, rfl⟩ := mem_ev hcl
    have h1 : ¬ ratherE (evAt l k) (evAt l i) := fun h => hci.2 k hk ⟨hcg, hc2, .inl h⟩
    have h2 : ¬ ratherE (evAt l i) (evAt l k) := fun h => hc3 (beats_of_rather h)
    have := same_ev hc2.symm hci.1 hcg hk1 h2 h1
    rw [this]
    exact ⟨hc1, by rw [← this]; exact hk1⟩

/-- The greatest Inc. -/
def incP (l : List Ev) : Int := l.foldl (fun m e => if m < e.inc then e.inc else m) 0

open Classical in
theorem inc_same (l : List Ev) : incP (goodL l) = serTo l l.length := by
  have h : ∀ n, n ≤ l.length → incP (goodL (l.take n)) = serTo l n := by
    intro n
    induction n with
    | zero => intro _; rfl
    | succ n ih =>
      intro hn
      have e : l.take (n + 1) = l.take n ++ [evAt l n] := by rw [List.take_succ_eq_append_getElem (by omega), ev_at (by omega)]
      have e2 : goodL (l.take n ++ [evAt l n]) = goodL (l.take n) ++ goodL [evAt l n] := by unfold goodL; rw [List.filter_append]
      unfold serTo
      rw [e, e2]
      unfold incP at ih ⊢
      rw [List.foldl_append, ih (by omega)]
      by_cases c : goodE (evAt l n)
      · have e3 : goodL [evAt l n] = [evAt l n] := by unfold goodL; rw [List.filter_cons_of_pos (by simpa using c)]; rfl
        rw [e3]
        by_cases c2 : serTo l n < (evAt l n).inc
        · rw [if_pos ⟨c, c2⟩]; simp [c2]
        · rw [if_neg (fun h => c2 h.2)]; simp [c2]
      · have e3 : goodL [evAt l n] = [] := by unfold goodL; rw [List.filter_cons_of_neg (by simpa using c)]; rfl
        rw [e3, if_neg (fun h => c h.1)]
        rfl
  have := h l.length (Nat.le_refl _)
  rw [List.take_length] at this
  exact this

end Go.Proofs.YtdhobdmhnocbgaaGreat

namespace Go.Proofs.YtdhobdmhnocbgaaGreat
open Zr

def aliEs (up : List Ev) : List En := (up.filter fun e => decide (e.alias ≠ ⟨#[]⟩)).map fun e => ⟨e.alias, e⟩

def isUp (up : List Ev) (a : ByteArray) : Prop := ∃ u, u ∈ up ∧ u.node = a

/-- One more, of entries in rising order: the list so far, and the key before. -/
def FirstOf (L : List En) (i : Nat) : Prop := ∀ h : i < L.length, 0 < i → (L[i - 1]'(by omega)).key ≠ L[i].key

open Classical in
noncomputable def aliM (up : List Ev) (L : List En) : Nat → List Ev
  | 0 => []
  | i + 1 => if h : i < L.length then
      (if (∃ _ : 0 < i, (L[i - 1]'(by omega)).key = L[i].key) ∨ isUp up L[i].key then aliM up L i else aliM up L i ++ [L[i].ev]) else aliM up L i

/-- The keys, each once. -/
def keysTo (L : List En) : Nat → List ByteArray
  | 0 => []
  | i + 1 => if h : i < L.length then
      (if (∃ _ : 0 < i, (L[i - 1]'(by omega)).key = L[i].key) then keysTo L i else keysTo L i ++ [L[i].key]) else keysTo L i

theorem keys_inv {L : List En} (hs : SortedE L) : ∀ n, n ≤ L.length → RisingS (keysTo L n) ∧ (∀ k, k ∈ keysTo L n ↔ ∃ (i : Nat) (h : i < L.length), i < n ∧ L[i].key = k)
  | 0, _ => ⟨List.Pairwise.nil, fun k => by simp [keysTo]⟩
  | n + 1, hn => by
    obtain ⟨h1, h2⟩ := keys_inv hs n (by omega)
    have hp := List.pairwise_iff_getElem.1 hs
    unfold keysTo
    rw [dif_pos (by omega)]
    by_cases c : ∃ _ : 0 < n, (L[n - 1]'(by omega)).key = L[n].key
    · rw [if_pos c]
      obtain ⟨c0, c1⟩ := c
      refine ⟨h1, fun k => ?_⟩
      rw [h2]
      constructor
      · rintro ⟨i, hi, h3, h4⟩
        exact ⟨i, hi, by omega, h4⟩
      · rintro ⟨i, hi, h3, h4⟩
        rcases Nat.lt_or_ge i n with q | q
        · exact ⟨i, hi, q, h4⟩
        · have : i = n := by omega
          subst this
          exact ⟨i - 1, by omega, by omega, c1.trans h4⟩
    · rw [if_neg c]
      have hlt : ∀ i (hi : i < n), ltS (L[i]'(by omega)).key L[n].key = true := by
        intro i hi
        have hn0 : 0 < n := by omega
        have a1 : ltS (L[n - 1]'(by omega)).key L[n].key = true := by
          cases q : ltS (L[n - 1]'(by omega)).key L[n].key with
          | true => rfl
          | false => exact absurd ⟨hn0, ltS_total q (hp (n - 1) n (by omega) (by omega) (by omega))⟩ c
        rcases Nat.lt_or_ge i (n - 1) with q | q
        · exact ltS_le_lt (hp i (n - 1) (by omega) (by omega) q) a1
        · have : i = n - 1 := by omega
          subst this
          exact a1
      refine ⟨List.pairwise_append.2 ⟨h1, List.pairwise_singleton _ _, fun a ha b hb => ?_⟩, fun k => ?_⟩
      · rw [List.mem_singleton] at hb
        subst hb
        obtain ⟨i, hi, h3, rfl⟩ := (h2 a).1 ha
        exact hlt i h3
      · rw [List.mem_append, h2, List.mem_singleton]
        constructor
        · rintro (⟨i, hi, h3, h4⟩ | rfl)
          · exact ⟨i, hi, by omega, h4⟩
          · exact ⟨n, by omega, by omega, rfl⟩
        · rintro ⟨i, hi, h3, h4⟩
          rcases Nat.lt_or_ge i n with q | q
          · exact .inl ⟨i, hi, q, h4⟩
          · have : i = n := by omega
            subst this
            exact .inr h4.symm

/-- The record of an alias. -/
def cnR (e : Ev) : RI := madeR (underP e.alias) 5 (underP e.node)

theorem ofKey_first {L : List En} (hs : SortedE L) {i : Nat} (h : i < L.length) (hf : ¬ ∃ _ : 0 < i, (L[i - 1]'(by omega)).key = L[i].key) : (ofKey L[i].key L).head? = some L[i] := by
  have hp := List.pairwise_iff_getElem.1 hs
  have e : L = L.take i ++ L[i] :: L.drop (i + 1) := by rw [List.getElem_cons_drop, List.take_append_drop]
  have e0 : ofKey L[i].key (L.take i) = [] := ofKey_none fun x hx hk => by
    obtain ⟨j, hj, rfl⟩ := List.mem_iff_getElem.1 hx
    rw [List.length_take] at hj
    rw [List.getElem_take] at hk
    have hi0 : 0 < i := by omega
    refine hf ⟨hi0, ?_⟩
    have a1 := hp (i - 1) i (by omega) h (by omega)
    rcases Nat.lt_or_ge j (i - 1) with q | q
    · have a2 := hp j (i - 1) (by omega) (by omega) q
      rw [hk] at a2
      exact ltS_total a2 a1
    · have : j = i - 1 := by omega
      subst this
      exact hk
  have e1 : ofKey L[i].key L = ofKey L[i].key (L.take i) ++ ofKey L[i].key (L[i] :: L.drop (i + 1)) := by
    have : ∀ k, ofKey k L = ofKey k (L.take i) ++ ofKey k (L[i] :: L.drop (i + 1)) := fun k => by
      conv => lhs; rw [e]
      unfold ofKey
      rw [List.filter_append]
    exact this _
  rw [e1, e0]
  unfold ofKey
  rw [List.filter_cons_of_pos (by simp)]
  rfl

theorem ali_head {up : List Ev} {a : ByteArray} (ha : a ≠ ⟨#[]⟩) {e : En} (h : (ofKey a (aliEs up)).head? = some e) : ∃ i, i < up.length ∧ evAt up i = e.ev ∧ (evAt up i).alias = a ∧ ∀ k, k < i → (evAt up k).alias ≠ a := by
  induction up with
  | nil => simp [ofKey, aliEs] at h
  | cons x up ih =>
    by_cases c : x.alias = a
    · have e1 : aliEs (x :: up) = ⟨x.alias, x⟩ :: aliEs up := by
        unfold aliEs
        rw [List.filter_cons_of_pos (by rw [c]; simpa using ha)]
        rfl
      rw [e1] at h
      unfold ofKey at h
      rw [List.filter_cons_of_pos (by simpa using c)] at h
      simp only [List.head?_cons, Option.some.injEq] at h
      subst h
      exact ⟨0, by simp, rfl, c, fun k hk => by omega⟩
    · have h' : (ofKey a (aliEs up)).head? = some e := by
        by_cases c2 : x.alias = ⟨#[]⟩
        · have e1 : aliEs (x :: up) = aliEs up := by
            unfold aliEs
            rw [List.filter_cons_of_neg (by simpa using c2)]
          rw [e1] at h
          exact h
        · have e1 : aliEs (x :: up) = ⟨x.alias, x⟩ :: aliEs up := by
            unfold aliEs
            rw [List.filter_cons_of_pos (by simpa using c2)]
            rfl
          rw [e1] at h
          unfold ofKey at h
          rw [List.filter_cons_of_neg (by simpa using c)] at h
          exact h
      obtain ⟨i, h1, h2, h3, h4⟩ := ih h'
      refine ⟨i + 1, by simpa using h1, h2, h3, fun k hk => ?_⟩
      cases k with
      | zero => exact c
      | succ k => exact h4 k (by omega)

theorem ali_recs {up : List Ev} (hn : ∀ e, e ∈ up → e.node ≠ ⟨#[]⟩) {L : List En} (hs : SortedE L) (hmem0 : ∀ e, e ∈ L → e ∈ aliEs up) (hkey0 : ∀ k, ofKey k L = ofKey k (aliEs up)) : ∀ n, n ≤ L.length → (aliM up L n).map cnR = (keysTo L n).filterMap (aliR up)
  | 0, _ => rfl
  | n + 1, hn' => by
    have ih := ali_recs hn hs hmem0 hkey0 n (by omega)
    have hmem : L[n] ∈ aliEs up := hmem0 _ (List.getElem_mem _)
    have hkey := hkey0 L[n].key
    have hfirst := ofKey_first hs (i := n) (by omega)
    unfold aliM keysTo
    rw [dif_pos (by omega), dif_pos (by omega)]
    by_cases c : ∃ _ : 0 < n, (L[n - 1]'(by omega)).key = L[n].key
    · rw [if_pos (.inl c), if_pos c]
      exact ih
    · rw [if_neg c, List.filterMap_append, ← ih]
      have hh := hfirst c
      rw [hkey] at hh
      obtain ⟨e0, he0, hee⟩ := List.mem_map.1 hmem
      obtain ⟨_, hne⟩ := List.mem_filter.1 he0
      have ha : L[n].key ≠ ⟨#[]⟩ := by rw [← hee]; simpa using hne
      obtain ⟨i, h1, h2, h3, h4⟩ := ali_head ha hh
      have hb : bearTo up L[n].key up.length = L[n].ev.node := by
        rw [bear_first up.length i (Nat.le_refl _) (by omega) h1 h3 fun k _ hk => h4 k hk, h2]
      by_cases cu : isUp up L[n].key
      · rw [if_pos (.inr cu)]
        have : aliR up L[n].key = none := by
          unfold aliR bearP
          rw [if_pos]
          rw [if_pos]
          obtain ⟨u, hu, hun⟩ := cu
          obtain ⟨j, hj, rfl⟩ := mem_ev hu
          exact ⟨j, hj, hun⟩
        rw [List.filterMap_cons, this]
        simp
      · rw [if_neg (fun h => h.elim c cu)]
        have hnb : ¬ ∃ i, i < up.length ∧ (evAt up i).node = L[n].key := fun ⟨j, hj, hjn⟩ => cu ⟨_, ev_mem hj, hjn⟩
        have hnode : L[n].ev.node ≠ ⟨#[]⟩ := by rw [← h2]; exact hn _ (ev_mem h1)
        have : aliR up L[n].key = some (cnR L[n].ev) := by
          unfold aliR bearP
          rw [if_neg hnb, hb, if_neg hnode]
          unfold cnR
          rw [← h2, h3]
        rw [List.filterMap_cons, this, List.map_append]
        simp

theorem keys_mem {up : List Ev} (k : ByteArray) : (∃ (i : Nat) (h : i < (sortP (aliEs up)).length), i < (sortP (aliEs up)).length ∧ (sortP (aliEs up))[i].key = k) ↔ ∃ e, e ∈ up ∧ e.alias = k ∧ k ≠ ⟨#[]⟩ := by
  constructor
  · rintro ⟨i, h, _, rfl⟩
    obtain ⟨e, he, hee⟩ := List.mem_map.1 (sort_mem.1 (List.getElem_mem h))
    obtain ⟨h1, h2⟩ := List.mem_filter.1 he
    rw [← hee]
    exact ⟨e, h1, rfl, by simpa using h2⟩
  · rintro ⟨e, he, rfl, hne⟩
    have : (⟨e.alias, e⟩ : En) ∈ sortP (aliEs up) := sort_mem.2 (List.mem_map.2 ⟨e, List.mem_filter.2 ⟨he, by simpa using hne⟩, rfl⟩)
    obtain ⟨i, hi, hie⟩ := List.mem_iff_getElem.1 this
    exact ⟨i, hi, hi, by rw [hie]⟩

theorem ali_same {up : List Ev} (hn : ∀ e, e ∈ up → e.node ≠ ⟨#[]⟩) : (aliM up (sortP (aliEs up)) (sortP (aliEs up)).length).map cnR = (aliTo up up.length).1 := by
  rw [ali_recs hn (sort_sorted _) (fun e he => sort_mem.1 he) (fun k => sort_key k _) _ (Nat.le_refl _)]
  obtain ⟨h1, h2⟩ := keys_inv (sort_sorted (aliEs up)) _ (Nat.le_refl _)
  exact (ali_spec up _ h1 fun a => (h2 a).trans (keys_mem a)).symm

/-- The zone's records, as the program makes them. -/
noncomputable def recordsM (l : List Ev) : List RI :=
  [madeR originB 6 (soaB (incP (goodL l)).toNat), madeR originB 2 serverB] ++ (upM l).flatMap nodeR ++ (aliM (upM l) (sortP (aliEs (upM l))) (sortP (aliEs (upM l))).length).map cnR ++ (upM l).map srvR

theorem records_same (l : List Ev) : recordsM l = recordsP l := by
  have hn : ∀ e, e ∈ upP l → e.node ≠ ⟨#[]⟩ := fun e he => by
    obtain ⟨i, _, ci, _, rfl⟩ := ((upP_spec l).2 e).1 he
    exact label_ne ci.1.1
  unfold recordsM recordsP
  rw [up_same, inc_same, ali_same hn]

end Go.Proofs.YtdhobdmhnocbgaaGreat
