import Derived.OrdersHeld
import Derived.RegionTactic
namespace Go.Proofs.YtdhobdmhnocbgabGreatDoor
open Go
section
variable {P:Program} {ops:Array Oper} {Q:Exit→Act→World→Prop} {md:Region.Mode} {S:World→Prop} {z:Nat}
def QaL (P:Program) (md:Region.Mode) (ops:Array Oper) (Q:Exit→Act→World→Prop) (S:World→Prop) (z:Nat):Nat→Array Bool→Act→World→Prop
 | 0,done,a,w=>Region.ready md ops done=[]∧Q .normal a w
 | n+1,done,a,w=>(Region.ready md ops done=[]→Q .normal a w) ∧
   ∀ i,i∈Region.ready md ops done→wpOp P ops Q i (fun b u=>(i≠z→S u)∧QaL P md ops Q S z n (done.setIfInBounds i true) b u) a w
theorem QcA:∀ (n:Nat) (done:Array Bool) (a:Act) (w:World),QaL P md ops Q S z n done a w→wpAny P md ops Q n done a w:=by
 intro n
 induction n with
 | zero=>exact fun _ _ _ h=>h
 | succ n ih =>
  intro done a w h
  refine ⟨h.1,fun i hi=>wpOp_mono (fun b u hb=>ih _ b u hb.2) (h.2 i hi)⟩
theorem Qdx {done:Array Bool} {i:Nat} {oz:Oper} (hz:ops[z]? = some oz) (hw:oz.after.any (fun e=>Region.binds md e && e.on == i)=true) (hi:done.getD i true=false):z ∉ Region.ready md ops done:=by
 intro h
 obtain ⟨_,o,ho,hall⟩:=mem_ready.1 h
 rw [hz] at ho
 cases ho
 obtain ⟨e,he,hb⟩:=Array.any_eq_true'.1 hw
 simp only [Bool.and_eq_true,beq_iff_eq] at hb
 have h1:=hall e he hb.1
 rw [hb.2] at h1
 rcases Nat.lt_or_ge i done.size with h' | h'
 ·simp [h'] at hi h1
  rw [hi] at h1
  cases h1
 ·simp [Array.getElem?_eq_none h'] at h1
theorem Qed {i:Nat} {oi oz:Oper} {v:Value} (hi:ops[i]? = some oi) (hz:ops[z]? = some oz) (hw:oz.after.any (fun e=>Region.binds md e && e.on == i)=true) (hsel:∀ (j:Nat) (o:Oper) cs b,ops[j]? = some o→o.op≠.select cs b)
  (hQ:∀ c a w,Q (.panic c) (a.put oi.dst v) w→Q (.panic c) a w) :
  ∀ (n:Nat) (done:Array Bool) (a:Act) (w:World),
   (∀ j oj,ops[j]? = some oj→j≠i→done.getD j true=false→(∀ e∈oj.after,Region.binds md e=true→e.on≠i)→oi.apart ops oj=true) →
   i∈Region.ready md ops done→YieldsIf P ops S oi v a→S w →
   QaL P md ops Q S z n (done.setIfInBounds i true) (a.put oi.dst v) w→QaL P md ops Q S z (n+1) done a w:=by
 intro n
 induction n with
 | zero =>
  intro done a w _ hr hy hS H
  refine ⟨fun h=>(by rw [h] at hr; cases hr),fun j hj=>?_⟩
  by_cases e:j=i
  ·subst e
   exact hy.wpOp hi hS ⟨fun _=>hS,H⟩
  ·have h1:=ready_mono hj e
   rw [H.1] at h1
   cases h1
 | succ n ih =>
  intro done a w hfree hr hy hS H
  have hun:=(mem_ready.1 hr).1
  refine ⟨fun h=>(by rw [h] at hr; cases hr),fun j hj=>?_⟩
  by_cases e:j=i
  ·subst e
   exact hy.wpOp hi hS ⟨fun _=>hS,H⟩
  ·have hjz:j≠z:=fun ez=>by subst ez; exact Qdx hz hw hun hj
   obtain ⟨hjun,oj,hoj,hall⟩:=mem_ready.1 hj
   have hno:∀ e∈oj.after,Region.binds md e=true→e.on≠i:=by
    intro e he hb ei
    have h1:=hall e he hb
    rw [ei] at h1
    rcases Nat.lt_or_ge i done.size with h' | h'
    ·simp [h'] at hun h1
     rw [hun] at h1
     cases h1
    ·simp [Array.getElem?_eq_none h'] at h1
   have h2:=wpOp_putIf hoj (hfree j oj hoj e hjun hno) (fun cs b=>hsel i oi cs b hi) (fun cs b=>hsel j oj cs b hoj) hQ hy (H.2 j (ready_mono hj e))
   refine wpOp_mono (fun b u hb=>?_) h2
   obtain ⟨hy',hS',hrest⟩:=hb
   refine ⟨hS',ih (done.setIfInBounds j true) b u (fun k ok hk hki hkun hkno=>?_) (ready_mono hr (Ne.symm e)) hy' (hS' hjz) ?_⟩
   ·refine hfree k ok hk hki ?_ hkno
    by_cases ejk:j=k
    ·subst ejk; exact hjun
    ·rw [getD_set_ne true ejk] at hkun; exact hkun
   ·rw [Array.setIfInBounds_comm _ _ e]
    exact hrest
theorem Qq {i:Nat} {oi oz:Oper} {v:Value} {n:Nat} {done:Array Bool} {a:Act} {w:World} (hi:ops[i]? = some oi) (hz:ops[z]? = some oz) (hw:oz.after.any (fun e=>Region.binds md e && e.on == i)=true)
  (hs:Region.noSelect ops=true) (hf:Region.free md ops done i=true) (hr:(Region.ready md ops done).contains i=true)
  (hQ:∀ c a w,Q (.panic c) (a.put oi.dst v) w→Q (.panic c) a w) (hy:YieldsIf P ops S oi v a) (hS:S w)
  (h:QaL P md ops Q S z n (done.setIfInBounds i true) (a.put oi.dst v) w):QaL P md ops Q S z (n+1) done a w :=
 Qed hi hz hw (Region.noSelect_spec hs) hQ n done a w (Region.free_spec hi hf) (by simpa using hr) hy hS h
theorem Q1m {i:Nat} {o:Oper} {n:Nat} {done:Array Bool} {a:Act} {w:World} (hi:ops[i]? = some o) (hr:Region.ready md ops done=[i])
  (h:∀ K:Act→World→Prop,(∀ b u,(i≠z→S u)→QaL P md ops Q S z n (done.setIfInBounds i true) b u→K b u)→if Region.wanted o (yielded ops a.tmps)=true then Oper.wp P o a w K Q else K (a.put o.dst undef) w) :
  QaL P md ops Q S z (n+1) done a w:=by
 refine ⟨fun h0=>(by rw [hr] at h0; cases h0),fun j hj=>?_⟩
 rw [hr] at hj
 simp only [List.mem_singleton] at hj
 subst hj
 exact wpOp_step hi (fun K hK=>h K (fun b u h1 h2=>hK b u ⟨h1,h2⟩))
theorem Q6p {done:Array Bool} {a:Act} {w:World} (hr:Region.ready md ops done=[]) (h:Q .normal a w):∀ n,QaL P md ops Q S z n done a w
 | 0=>⟨hr,h⟩
 | _+1=>⟨fun _=>h,fun i hi=>by rw [hr] at hi; cases hi⟩
theorem Q3E {id:Nat} {a:Act} {w:World} (S:World→Prop) (z:Nat) (hm:P.follows .mixedOrders=true) (h:QaL P .any ops Q S z ops.size (Array.replicate ops.size false) a w.drew):(Code.region id ops true).wp P Q a w :=
 wp_region_any hm (QcA _ _ _ _ h)
end
end Go.Proofs.YtdhobdmhnocbgabGreatDoor
