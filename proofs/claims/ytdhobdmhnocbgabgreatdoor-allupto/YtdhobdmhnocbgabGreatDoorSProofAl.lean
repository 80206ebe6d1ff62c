/-
  For every script of steps (Parse, Serialize, Frame and pushes into new feeds, Records, Respond, pushes into feeds that last, in every order), of bulk at most 1048576, the law All returns true (each step's answer is the document's, and behind each step every list that came out so far still reads as its owner left it), and the script reads behind the call as it read before. The library's tables read as the program's own text lays them (the card's tie).
-/
import Derived.Test.YtdhobdmhnocbgabGreatDoorCards
import Derived.Test.YtdhobdmhnocbgabGreatDoorTie
import Derived.Test.YtdhobdmhnocbgabGreatDoorSOpnA
import Derived.WalkKit
import Derived.OpenShut
import Derived.Deep.DeepHandedRow
import Derived.Lib.LaidTab
import Derived.Stop.LaidErr
namespace Go.Proofs.YtdhobdmhnocbgabGreatDoor
open Go.ChangeShapes Go.WideShapes Go.ChangeAt Go.RowKit Go.Deep Zr
theorem QmG : Tryz.prog.globalNamed "internal/strconv.uint64pow10" = some 0 := by kernel_rfl
theorem Qih:(Tryz.prog.globals[0]?).map (·.type)=some 203:=by kernel_rfl
theorem QhW:Tryz.prog.cellsOf 203=20:=by kernel_rfl
theorem QhX:Tryz.prog.cellsOf 185=1:=by kernel_rfl
theorem Qgo {W : World} (h : laidMetH Tryz.prog Rows.allUptoRow.laid W) : Lib.TabIs Tryz.prog W "internal/strconv.uint64pow10" .u64 Lib.pow10Tab := by
 rw [MakeChecks.laidMetH_plain _ _ _ (by kernel_rfl)] at h
 have h2 : laidMet Tryz.prog [("internal/strconv.uint64pow10", Rows.laid_internal_strconv_uint64pow10)] W := laidMet.tail (laidMet.tail h)
 exact Lib.tabIs_of_head (rest:=[]) QmG Qih Tryz.underlying203 Tryz.underlying185 QhX QhW h2
def Qjl:DataW Unit→Array Value
 | .agg ds=>(ds.map fun d=>match d with | .lit (.int k z)=>Value.int k z | _=>Value.int .i64 0).toArray
 | _=>#[]
def Qfh (d:DataW Unit):Obj→Obj
 | .cells _ t frozen=>.cells (Qjl d) t frozen
 | o=>o
noncomputable def Q8k (os:Os):World :=
 { World.holding Tryz.prog os ⟨#[],#[],[]⟩ with heap:=(((World.holding Tryz.prog os ⟨#[],#[],[]⟩).heap.modify 0 (Qfh Rows.laid_internal_strconv_uint64pow10)).modify 1 (Qfh Rows.laid_math_bits_deBruijn32tab)).modify 2 (Qfh Rows.laid_math_bits_deBruijn64tab) }
set_option maxRecDepth 100000 in
theorem Qiy (os:Os):laidMet Tryz.prog Rows.allUptoRow.laid ((Q8k os).forCall (fun _ _=>0) ⟨#[],#[.slice none 0 0],[]⟩).memory :=
 laidMet_of_run' 8 (by kernel_rfl) (by kernel_rfl)
theorem Qmn (os:Os) {H:Type} (enc:TypeId × Value→H):∃ places,DataW.whole enc Tryz.prog ((Q8k os).forCall (fun _ _=>0) ⟨#[],#[.slice none 0 0],[]⟩).memory Tryz.f3.params.toList Rows.allSpec.vars false #[Value.slice none 0 0].toList 8=some ([.nil],[],places) :=
 ⟨[],by kernel_rfl⟩
theorem Bel.frame {W W':World} (h:Bel W.heap.size W W') (may:MemPlace→Prop):W.keptBut W' may:=by
 refine ⟨h.os,h.output,fun i hi=>?_⟩
 rw [h.block i hi]
 split <;> simp_all
set_option maxRecDepth 100000 in
theorem Qec (os:Os) (started:os.Started) (H:Type) (enc:TypeId × Value→H) (F:Stop.Interp) :
  ReturnsInHanded {} Tryz.checked os 3 .any ((Rows.OpenSpec.upto Rows.allSpec).preRow enc Tryz.prog Tryz.f3 Rows.allUptoRow.domain false Rows.allUptoRow.laid) (((Rows.OpenSpec.upto Rows.allSpec).at F).post enc Tryz.prog Tryz.f3 false true false false):=by
 obtain ⟨places,hx⟩:=Qmn os enc
 refine returnsInHanded_of_row (C:=Tryz.checked) (s:=Rows.OpenSpec.upto Rows.allSpec) Tryz.ownU started (by kernel_rfl) Tryz.func3
  (witness_row_at (enc:=enc) (C:=Tryz.checked) false (Q8k os) #[.slice none 0 0] rfl (by kernel_rfl) (by kernel_rfl) (by kernel_rfl)
   (OpenSpec.preRow_of_cond 8 hx (by kernel_rfl) (fun k hk=>by cases hk; kernel_rfl) (by kernel_rfl) (Qiy os))) ?_
 intro W base args ds gs before hval0 hW _ hcond hsz0 hL _ _
 have hk:=hcond _ rfl
 have hval:∀ (j:Nat) t v,Tryz.f3.params[j]? = some t→args[j]? = some v→Value.okWide Tryz.prog W .any base t v:=hval0
 have hW':=hW
 obtain ⟨p,q,hA0,hV,rfl,hfz,hnd⟩:=hW
 have hA:DataW.TrodAll enc Tryz.prog W 0 (fun _=>true) true Tryz.f3.params.toList args.toList ds p:=hA0
 have hsz:(DataW.weightsEach Tryz.prog (Tryz.f3.params.toList++(Rows.OpenSpec.upto Rows.allSpec).bare.plain.varTypes Tryz.prog) (ds++gs)).all (·≤reachBytes)=true:=hsz0
 clear hsz0
 rw [Tryz.params3] at hA hval hsz
 obtain ⟨v0,d0,rfl,rfl,h0⟩:=trodAll_one hA
 obtain ⟨rfl,rfl⟩:=trodVars_none hV
 have h0k:=h0
 obtain ⟨fuel0,hf0⟩:=h0
 obtain ⟨a0,n0,c0,rfl⟩:=okWide_slice Tryz.underlying22 (hval 0 22 v0 rfl rfl)
 clear hA0 hval0
 simp only [List.append_nil] at hW' hk
 have hlt:∀ x∈p,x.block < W.heap.size:=fun x hx=>by simpa using hW'.lt x hx
 have hbk:Rows.uptoBulkAll [d0]≤1048576:=of_decide_eq_true hk
 simp only [Rows.uptoBulkAll] at hbk
 obtain ⟨a,S,c,e0,hrow,hb,hin⟩:=Qkx hf0 (by simp only; omega) (fun y hy=>by simpa using List.all_eq_true.1 hsz y (DataW.weights_mem_each (j:=0) rfl rfl y hy))
 cases e0
 refine (QjM S a0 c0 W hrow hin (by omega) (by omega) (by omega) (Qgo hL)).mono fun e W' ⟨he,hw⟩=>?_
 subst he
 have harg0:DataW.Trod enc Tryz.prog W' 0 (fun b=>decide (b < W.heap.size)) true 22 (.slice a0 S.length c0) d0 p :=
  WideElems.Trod_stays Tryz.laidOutU (by kernel_rfl) (of_decide_eq_true (by kernel_rfl)) h0k (fun x hx=>(hw.fake.same (hlt x hx):W.sameAt (retape W W') x)) (fun x hx=>by simpa using hlt x hx)
 exact ⟨_,rfl,_,_,_,[],p,[],hW',trodAll_mk1 (shut_bool Tryz.underlying4 true),trodAll_mk1 harg0,rfl,hw.frame _,fun h=>by cases h⟩
theorem QhM:Rows.AllUptoSaid :=
 OpenClaim.holds_of_cond 3 Tryz.f3 rfl rfl rfl rfl rfl rfl rfl ⟨rfl,rfl,rfl,rfl,rfl⟩ rfl rfl rfl rfl rfl (by kernel_rfl) Tryz.func3 (by kernel_rfl)
  (of_decide_eq_true (by kernel_rfl)) (by unfold Func.isWrapper; first | (rw [if_pos (by decide +kernel)]; kernel_rfl) | (rw [if_neg (by decide +kernel)]; exact ⟨rfl,rfl⟩))
  (fun os started H enc _ F=>by rw [OpenClaim.pre_eq_preRow]; exact Qec os started H enc F)
theorem Qgn (f : FuncId) (fn : Func) (hf : Tryz.pinned.checked.prog.funcNamed "zone/zonelaw.All" = some f) (hfn : Tryz.pinned.checked.prog.funcs[f]? = some fn) :
  false=Tryz.pinned.checked.prog.looks []∧∀ (j:Nat) t,fn.params[j]? = some t→Tryz.pinned.checked.prog.wantsStandIn t=false:=by
 obtain rfl : f = 3 := Option.some.inj ((show Tryz.prog.funcNamed "zone/zonelaw.All" = some 3 by kernel_rfl).symm.trans hf) |>.symm
 obtain rfl:fn=Tryz.f3:=(Option.some.inj (Tryz.func3.symm.trans hfn)).symm
 refine ⟨by kernel_rfl,fun j t ht=>?_⟩
 rw [Tryz.params3] at ht
 obtain rfl:t=22:=by simpa using Array.mem_of_getElem? ht
 exact (show Tryz.prog.wantsStandIn 22=false by kernel_rfl)
theorem all_holds:Rows.AllUptoCardSaid :=
 Claim7.holds_tied_plain_at .later [] _ _ _ _ QhM (fun _ h=>by cases h) (by kernel_rfl) (fun _ h=>by cases h) allUpto_row_tie rfl ⟨rfl,rfl⟩ (by kernel_rfl) rfl Qgn (by kernel_rfl)
end Go.Proofs.YtdhobdmhnocbgabGreatDoor
